package console_test

import (
	"fmt"
	"math/big"
	"regexp"
	"slices"
	"strconv"
	"strings"
	"testing"

	"dustpan/api"
	"dustpan/config"
	"dustpan/console"
	"dustpan/ghost"
	"dustpan/guess"
	"dustpan/op"
	"dustpan/phase"
	"dustpan/tape"
	"dustpan/world"
)

// forms are patterns of lines: of each first word how many numbers stand behind it, and perhaps what else.
func forms() []*regexp.Regexp {
	const number = ` (?:0|-?[1-9][0-9]*)`
	var l []*regexp.Regexp
	for _, form := range []string{`config((?:` + number + `){7})`, `mut(` + number + `) ((?s:.*))`, `pick((?:` + number + `)+)`, `turn(` + number + `)`, `wish()`, `event(` + number + `)`, `reg((?:` + number + `){2})`, `cell(` + number + `)`, `live()`, `state()`, `free(` + number + `)`} {
		l = append(l, regexp.MustCompile(`\A`+form+`\z`))
	}
	return l
}

// plain is the chapter's words, with a world of its own.
type plain struct {
	forms    []*regexp.Regexp
	config   api.Config
	programs map[int][]api.Op
	world    *world.World
}

// split is a line's first word, its numbers, and what else stands behind them; false, if no pattern is its.
func (p *plain) split(line string) (string, []int, string, bool) {
	for _, form := range p.forms {
		found := form.FindStringSubmatch(line)
		if found == nil {
			continue
		}
		var l []int
		for _, word := range strings.Fields(found[1]) {
			n, _ := new(big.Int).SetString(word, 10)
			if !n.IsInt64() {
				return "", nil, "", false
			}
			l = append(l, int(n.Int64()))
		}
		word, _, _ := strings.Cut(line, " ")
		return word, l, found[len(found)-1], true
	}
	return "", nil, "", false
}

// answer is what a line answers, without a line feed.
func (p *plain) answer(line string) string {
	word, l, rest, ok := p.split(line)
	switch {
	case !ok:
		return "error 2"
	case word == "config":
		return p.begin(api.Config{Blocks: l[0], Words: l[1], Muts: l[2], Regs: l[3], Cells: l[4], Log: l[5], Stack: l[6]})
	case word == "mut":
		return p.add(l[0], rest)
	case word == "turn" && (l[0] < 0 || l[0] > 1000):
		return "error 4"
	case word == "free" && (l[0] < 0 || l[0] > 3):
		return "error 1"
	}
	if p.world == nil {
		var programs [][]api.Op
		for id := range p.config.Muts {
			programs = append(programs, p.programs[id])
		}
		p.world, _ = world.New(p.config, programs...)
	}
	if slices.Contains([]string{"pick", "turn", "wish"}, word) {
		return p.pick(word, l)
	}
	return p.look(word, l)
}

// begin is a config's line.
func (p *plain) begin(c api.Config) string {
	if !config.Right(c) {
		return "error 1"
	}
	p.config, p.programs, p.world = c, map[int][]api.Op{}, nil
	return "ok"
}

// add is an operation's line.
func (p *plain) add(id int, line string) string {
	o, code := op.Parse(line)
	switch {
	case id < 0 || id >= p.config.Muts:
		return "error 4"
	case p.world != nil:
		return "error 11"
	case code != api.OK:
		return "error 2"
	case len(p.programs[id]) >= 1000:
		return "error 13"
	}
	p.programs[id] = append(p.programs[id], o)
	return "ok"
}

// pick is the line of what picks something.
func (p *plain) pick(word string, l []int) string {
	var picks []int
	switch word {
	case "pick":
		picks = l
	case "turn":
		for range l[0] {
			for who := 0; who <= p.config.Muts; who++ {
				picks = append(picks, who)
			}
		}
	case "wish":
		picks = []int{p.config.Muts + 1}
	}
	for _, who := range picks {
		if code := p.world.Pick(who); code != api.OK {
			return fmt.Sprintf("error %d", code)
		}
	}
	return fmt.Sprintf("ok %d", len(p.world.Events()))
}

// look is the line of what looks at something.
func (p *plain) look(word string, l []int) string {
	w := p.world
	h := w.Shared().Heap
	switch word {
	case "event":
		if l[0] < 0 || l[0] >= len(w.Events()) {
			return "error 12"
		}
		line, _ := tape.Event(w.Events()[l[0]])
		return line
	case "reg":
		if l[0] < 0 || l[0] >= p.config.Muts || l[1] < 0 || l[1] >= p.config.Regs {
			return "error 4"
		}
		return fmt.Sprintf("ok %d", w.Mut(l[0]).Regs()[l[1]])
	case "cell":
		if l[0] < 0 || l[0] >= p.config.Cells {
			return "error 4"
		}
		v, _ := h.Cell(l[0])
		return fmt.Sprintf("ok %d", v)
	case "live":
		return fmt.Sprintf("ok %d %d", len(h.Objects()), len(ghost.Garbage(w)))
	case "state":
		does := map[bool]string{true: "done", false: "busy"}[w.Done()]
		return fmt.Sprintf("%s %d %d %s", phase.Name(w.Coll().Phase()), w.Picks(), w.Coll().Cycles(), does)
	}
	return fmt.Sprintf("ok %d", len(h.Frees(l[0])))
}

// somehow is a line by a rule, right ones and wrong ones.
func somehow(roll guess.Rule, c api.Config) string {
	n := func(below int) string {
		return strconv.Itoa(roll(max(1, below+roll(2))) - roll(30)/29)
	}
	operation := func() string {
		line, _ := op.Line(guess.Programs(roll, c, 1)[0][0])
		return line
	}
	switch roll(16) {
	case 0:
		if roll(5) > 0 {
			return "live"
		}
		x := guess.Config(roll)
		return fmt.Sprintf("config %d %d %d %d %d %d %d", x.Blocks, x.Words, x.Muts, x.Regs, x.Cells, x.Log, x.Stack-roll(6)/5)
	case 1, 2, 3, 4:
		return "mut " + n(c.Muts) + " " + operation()
	case 5, 6:
		var l []string
		for _, who := range guess.Picks(roll, c, 1+roll(40)) {
			l = append(l, strconv.Itoa(who))
		}
		return "pick " + strings.Join(l, " ")
	case 7:
		return "turn " + n(20)
	case 8:
		return "wish"
	case 9:
		return "event " + n(20)
	case 10:
		return "reg " + n(c.Muts) + " " + n(c.Regs)
	case 11:
		return "cell " + n(c.Cells)
	case 12:
		return "live"
	case 13:
		return "state"
	case 14:
		return "free " + n(4)
	}
	return ""
}

// broken is a line one of whose bytes is another one, or goes, or has one more behind it; or a whole one stands behind it.
func broken(roll guess.Rule, line string) string {
	i := roll(len(line) + 1)
	some := []string{" ", "  ", "-", "0", "1", "9", "+", "x", "\t", "\r", "\x00", "\xff", " 0", " -1", " safe", "99999999999999999999"}[roll(16)]
	switch behind := line[min(len(line), i+1):]; roll(4) {
	case 0:
		return line[:i] + some + line[i:]
	case 1:
		return line[:i] + some + behind
	case 2:
		return line[:i] + behind
	}
	return line + some
}

// Whatever lines there are, each answers what the chapter says, and there is a world just where the chapter says it.
func TestAnyLines(t *testing.T) {
	answers := map[string]int{}
	for seed := range uint64(400) {
		roll := guess.By(seed)
		c := console.New()
		p := &plain{forms: forms(), config: first(), programs: map[int][]api.Op{}}
		script, told := "", ""
		for range 150 {
			line := somehow(roll, p.config)
			if roll(12) == 0 {
				line = broken(roll, line)
			}
			want := ""
			if line != "" {
				want = p.answer(line) + "\n"
			}
			if got := c.Do(line); got != want {
				t.Fatalf("behind %q: Do(%q): %q; want %q", script, line, got, want)
			}
			script, told = script+line+"\n", told+want
			if (c.World() == nil) != (p.world == nil) || !slices.Equal(c.World().Events(), p.world.Events()) {
				t.Fatalf("behind %q: another world", script)
			}
			word, _, _ := strings.Cut(line, " ")
			first, _, _ := strings.Cut(want, " ")
			if first != "error" {
				want = first
			}
			answers[word+" "+strings.TrimSuffix(want, "\n")]++
		}
		if got := console.New().Run(script); got != told {
			t.Fatalf("Run(%q): %q; want %q", script, got, told)
		}
	}
	for _, some := range []string{"config ok", "config error 1", "config error 2", "mut ok", "mut error 2", "mut error 4", "mut error 11", "pick ok", "pick error 2", "pick error 4", "turn ok", "turn error 2", "turn error 4", "wish ok", "event error 2", "event error 12", "reg ok", "reg error 2", "reg error 4", "cell ok", "cell error 2", "cell error 4", "live ok", "state error 2", "state idle", "state trace", "free ok", "free error 1", "free error 2"} {
		if answers[some] == 0 {
			t.Errorf("never came: %s", some)
		}
	}
}
