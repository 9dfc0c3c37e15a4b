package tape_test

import (
	"fmt"
	"math/big"
	"regexp"
	"strings"
	"testing"

	"dustpan/api"
	"dustpan/config"
	"dustpan/guess"
	"dustpan/op"
	"dustpan/tape"
)

// somehow is a script by a rule, of whose picks a few are none of a world's.
func somehow(roll guess.Rule) tape.Script {
	c := api.Config{Blocks: 1 + roll(4), Words: 16 + roll(9), Muts: 1 + roll(4), Regs: 1 + roll(3), Cells: roll(3), Log: 1 + roll(3), Stack: 1 + roll(3)}
	s := tape.Script{Config: c, Programs: make([][]api.Op, c.Muts)}
	for m := range s.Programs {
		for range roll(12) {
			o := api.Op{Kind: 1 + roll(8), A: roll(c.Regs + 1), B: roll(c.Regs + 1), C: roll(c.Regs+1) - roll(2)}
			s.Programs[m] = append(s.Programs[m], op.Bare(o))
		}
	}
	for range roll(600) {
		s.Picks = append(s.Picks, roll(c.Muts+2))
		if roll(400) == 0 {
			s.Picks = append(s.Picks, roll(20)-10)
		}
	}
	return s
}

// plainText is the chapter's words, line by line.
func plainText(s tape.Script) string {
	c := s.Config
	text := fmt.Sprintf("config %d %d %d %d %d %d %d\n", c.Blocks, c.Words, c.Muts, c.Regs, c.Cells, c.Log, c.Stack)
	for m, program := range s.Programs {
		for _, o := range program {
			line, _ := op.Line(o)
			text += fmt.Sprintf("mut %d %s\n", m, line)
		}
	}
	for i, who := range s.Picks {
		behind := " "
		if i%20 == 19 || i == len(s.Picks)-1 {
			behind = "\n"
		}
		if i%20 == 0 {
			text += "pick "
		}
		text += fmt.Sprint(who) + behind
	}
	return text
}

// number is how a pattern has a number.
const number = `(?:0|-?[1-9][0-9]*)`

// patterns are those of the lines by their words.
type patterns struct {
	config, mut, pick *regexp.Regexp
}

// made are the patterns.
func made() patterns {
	return patterns{
		config: regexp.MustCompile(`\Aconfig((?: ` + number + `){7})\z`),
		mut:    regexp.MustCompile(`\Amut (` + number + `) ([^\n]*)\z`),
		pick:   regexp.MustCompile(`\Apick((?: ` + number + `){1,20})\z`),
	}
}

// ints are the numbers of a text that has nothing else; false, if one isn't an int.
func ints(s string) ([]int, bool) {
	var l []int
	for _, word := range strings.Fields(s) {
		n, _ := new(big.Int).SetString(word, 10)
		if !n.IsInt64() {
			return nil, false
		}
		l = append(l, int(n.Int64()))
	}
	return l, true
}

// plainRead is the chapter's words by patterns: it looks at each line with all of those ahead of it.
func (p patterns) plainRead(text string) (tape.Script, int, api.Errno) {
	all := strings.SplitAfter(text, "\n")
	if len(all) > 1 && all[len(all)-1] == "" {
		all = all[:len(all)-1]
	}
	var s tape.Script
	for i, line := range all {
		switch {
		case i == 400:
			return tape.Script{}, i, api.ErrLong
		case !strings.HasSuffix(line, "\n") || !p.isSaid(&s, all[:i], strings.TrimSuffix(line, "\n")):
			return tape.Script{}, i, api.ErrForm
		}
	}
	return s, 0, api.OK
}

// isSaid tells whether a line is as said behind these, and adds it.
func (p patterns) isSaid(s *tape.Script, behind []string, line string) bool {
	last := "\n"
	if len(behind) > 0 {
		last = behind[len(behind)-1]
	}
	if found := p.config.FindStringSubmatch(line); found != nil {
		l, ok := ints(found[1])
		if !ok || len(behind) > 0 {
			return false
		}
		s.Config = api.Config{Blocks: l[0], Words: l[1], Muts: l[2], Regs: l[3], Cells: l[4], Log: l[5], Stack: l[6]}
		s.Programs = make([][]api.Op, max(0, min(8, l[2])))
		return config.Right(s.Config)
	}
	if found := p.mut.FindStringSubmatch(line); found != nil && len(behind) > 0 {
		l, ok := ints(found[1])
		o, code := op.Parse(found[2])
		if !ok || code != api.OK || l[0] < 0 || l[0] >= s.Config.Muts || strings.HasPrefix(last, "pick") {
			return false
		}
		if before := p.mut.FindStringSubmatch(strings.TrimSuffix(last, "\n")); before != nil && before[1] > found[1] { // each has one digit
			return false
		}
		s.Programs[l[0]] = append(s.Programs[l[0]], o)
		return true
	}
	found := p.pick.FindStringSubmatch(line)
	if found == nil || len(behind) == 0 || strings.HasPrefix(last, "pick") && strings.Count(last, " ") != 20 {
		return false
	}
	l, ok := ints(found[1])
	s.Picks = append(s.Picks, l...)
	return ok
}

// looks holds what is read against the patterns, and what is written of it against the text.
func (p patterns) looks(t *testing.T, text string) bool {
	t.Helper()
	want, at, code := p.plainRead(text)
	got, n, e := tape.Read(text)
	if e != code || n != at || !equal(got, want) {
		t.Fatalf("Read(%q): %v, %d, %d; want %v, %d, %d", text, got, n, e, want, at, code)
	}
	if e == api.OK {
		tells(t, got, text)
	} else if !zero(got) {
		t.Fatalf("Read(%q): %v", text, got)
	}
	return e == api.OK
}

// What is written is read, and is the chapter's words.
func TestAnyScripts(t *testing.T) {
	p := made()
	for seed := range uint64(300) {
		s := somehow(guess.By(seed))
		tells(t, s, plainText(s))
		if !p.looks(t, plainText(s)) {
			t.Fatal("the patterns don't read what is written:", s)
		}
	}
}

// TestAnyLines lays lines, right ones and wrong ones, in any order.
func TestAnyLines(t *testing.T) {
	p := made()
	few := []string{ahead, "mut 0 safe\n", "mut 1 drop 1\n", "mut 2 load 0 0 -1\n", "mut 3 safe\n", full, full, "pick 0\n", "pick -1 7\n", "pick\n", "\n", "mut 1 drop\n", "config 1 16 1 1 0 1 0\n", strings.TrimSuffix(full, "\n") + " 0\n", "pick 1", ahead[:5]}
	read, refused := 0, 0
	for seed := range uint64(20000) {
		roll := guess.By(seed)
		text := ""
		if roll(20) > 0 {
			text = ahead
		}
		from, many := roll(3), 1+roll(12)
		for range roll(6) {
			text += few[(from+roll(many))%len(few)]
		}
		if p.looks(t, text) {
			read++
		} else {
			refused++
		}
	}
	if read < 500 || refused < 5000 {
		t.Errorf("only %d read, %d refused", read, refused)
	}
}

// TestBrokenTexts breaks a text by one byte at each of its places.
func TestBrokenTexts(t *testing.T) {
	p := made()
	text := ahead + "mut 0 alloc 0 10\nmut 0 safe\nmut 2 store 0 -1 1\n" + full + "pick 10 0 -3\n"
	read, refused := 0, 0
	look := func(s string) {
		if p.looks(t, s) {
			read++
		} else {
			refused++
		}
	}
	for i := range len(text) + 1 {
		for _, x := range []string{"0", "1", "3", "9", "-", " ", "+", "s", "\n", "\r", "\x00", "\xff", "\n\n", " 0", "pick ", "\npick 0", "\nmut 1 safe"} {
			look(text[:i] + x + text[i:])
			if i < len(text) {
				look(text[:i] + x + text[i+1:])
			}
		}
		if i < len(text) {
			look(text[:i] + text[i+1:])
		}
		look(text[:i])
		look(text[i:])
	}
	if read < 200 || refused < 2000 {
		t.Errorf("only %d read, %d refused", read, refused)
	}
}

// TestBrokenEvents breaks events' lines by one byte at each of their places, and holds what is read against a pattern.
func TestBrokenEvents(t *testing.T) {
	p := regexp.MustCompile(`\A(` + number + ` ` + number + `) (did|start|marked|rested|freed)((?: ` + number + `){3})\z`)
	read, refused := 0, 0
	look := func(s string) {
		found := p.FindStringSubmatch(s)
		if found == nil {
			refused++
			noEvent(t, s)
			return
		}
		l, ok := ints(found[1] + found[3])
		if !ok {
			refused++
			noEvent(t, s)
			return
		}
		read++
		kind := map[string]int{"did": 1, "start": 2, "marked": 3, "rested": 4, "freed": 5}[found[2]]
		isLine(t, api.Event{Pick: l[0], Who: l[1], Kind: kind, Op: l[2], Code: api.Errno(l[3]), Value: l[4]}, s)
	}
	for _, line := range []string{"0 1 did 2 10 0", "17 3 start 0 0 1", "-5 0 marked 0 0 0", "1 2 rested 3 -4 9223372036854775807", "100 1 freed 0 0 31"} {
		look(line)
		for i := range len(line) + 1 {
			for _, x := range []string{"0", "1", "8", "-", " ", "+", "_", "d", "\n", "\x00", "\xff"} {
				look(line[:i] + x + line[i:])
				if i < len(line) {
					look(line[:i] + x + line[i+1:])
				}
			}
			look(line[:i])
			look(line[i:])
			if i < len(line) {
				look(line[:i] + line[i+1:])
			}
		}
	}
	if read < 50 || refused < 500 {
		t.Errorf("only %d read, %d refused", read, refused)
	}
}
