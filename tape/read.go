package tape

import (
	"strings"

	"dustpan/api"
	"dustpan/config"
	"dustpan/op"
	"dustpan/spell"
)

// configNumbers is how many numbers a config's line has.
const configNumbers = 7

// lines is what is left of a text's lines.
type lines struct {
	left string
}

// next takes a line, without the line feed that ends it; false of one that none ends.
func (l *lines) next() (string, bool) {
	line, left, ended := strings.Cut(l.left, "\n")
	l.left = left
	return line, ended
}

// reader reads a script, line by line.
type reader struct {
	lines
	script Script
	last   int // the mutator of the last mut line, as they don't fall
}

// Read is a text's script.
func Read(text string) (Script, int, api.Errno) {
	r := &reader{lines: lines{left: text}}
	// Of the empty text a line is asked for as well, as a script has at least one.
reading:
	for at := 0; ; at++ {
		switch code := r.read(at); {
		case code != api.OK:
			return Script{}, at, code
		case r.left == "":
			break reading
		}
	}
	return r.script, 0, api.OK
}

// read takes the line of a number.
func (r *reader) read(at int) api.Errno {
	if at == api.MaxLines {
		return api.ErrLong
	}
	line, ended := r.next()
	if !ended || !r.take(at, line) {
		return api.ErrForm
	}
	return api.OK
}

// take takes what a line tells; false of one that isn't as said where it stands.
func (r *reader) take(at int, line string) bool {
	word, rest, _ := strings.Cut(line, " ")
	switch {
	case at == 0:
		return word == configWord && r.takeConfig(rest)
	case word == mutWord:
		return r.takeMut(rest)
	case word == pickWord:
		return r.takePicks(rest)
	}
	return false
}

// takeConfig takes a config, and as many empty programs as it has mutators.
func (r *reader) takeConfig(rest string) bool {
	l, ok := upTo(configNumbers, rest)
	if !ok || len(l) != configNumbers {
		return false
	}
	c := api.Config{Blocks: l[0], Words: l[1], Muts: l[2], Regs: l[3], Cells: l[4], Log: l[5], Stack: l[6]}
	if !config.Right(c) {
		return false
	}
	r.script = Script{Config: c, Programs: make([][]api.Op, c.Muts)}
	return true
}

// takeMut takes an operation of a mutator.
func (r *reader) takeMut(rest string) bool {
	word, line, _ := strings.Cut(rest, " ")
	id, ok := spell.Number(word)
	if !ok || id < r.last || id >= r.script.Config.Muts || len(r.script.Picks) > 0 {
		return false
	}
	o, code := op.Parse(line)
	if code != api.OK {
		return false
	}
	r.last = id
	r.script.Programs[r.last] = append(r.script.Programs[r.last], o)
	return true
}

// takePicks takes picks.
func (r *reader) takePicks(rest string) bool {
	l, ok := upTo(perLine, rest)
	// If one of the lines ahead had fewer than it may have, what is there isn't of whole lines.
	if !ok || len(r.script.Picks)%perLine > 0 {
		return false
	}
	r.script.Picks = append(r.script.Picks, l...)
	return true
}

// upTo is the numbers of a text, one at least and most at most, if it has nothing else.
func upTo(most int, text string) ([]int, bool) {
	// Of too many words the last one has all that are left, so that it is no number.
	return spell.Numbers(strings.SplitN(text, " ", most)...)
}
