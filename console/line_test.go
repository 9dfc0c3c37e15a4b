package console_test

import (
	"slices"
	"strconv"
	"strings"
	"testing"

	"dustpan/api"
	"dustpan/console"
)

// Each operation is one more of its mutator's program, in whatever order the mutators have theirs.
func TestMut(t *testing.T) {
	c := with(t, "mut 1 alloc 0 1", "mut 0 alloc 1 2", "mut 1 store 0 0 0", "mut 1 set 1 0", "mut 0 safe", "mut 0 get 0 1", "mut 0 load 2 0 0", "mut 1 load 3 1 0", "mut 1 store 0 -1 9", "mut 1 drop 4", "mut 1 alloc 0 16", "mut 1 move 3 0")
	tells(t, c,
		"turn 40", "ok 12",
		"event 0", "39 0 did 0 0 1",
		"event 1", "45 0 did 1 0 0",
		"event 2", "51 0 did 2 0 0",
		"event 3", "57 0 did 3 6 0",
		"event 4", "61 1 did 0 0 33",
		"event 5", "70 1 did 1 0 0",
		"event 6", "76 1 did 2 0 0",
		"event 7", "82 1 did 3 6 0",
		"event 8", "88 1 did 4 5 0",
		"event 9", "94 1 did 5 5 0",
		"event 10", "100 1 did 6 8 0",
		"event 11", "106 1 did 7 0 33",
		"event 12", "error 12",
	)
}

// Of several errors the first one named is told: no mutator, a world, no operation's line, too many operations.
func TestWrongMuts(t *testing.T) {
	c := console.New()
	wrong := []string{"hello", "safe 0", "alloc 0", "alloc 0 1 2", "Safe", "safe ", " safe", "drop  0", "drop 00", "drop +1", "drop x", "mut 0 safe", "\xff", "safe\n", "safe\r", ""}
	for _, line := range append(wrong, "safe", "alloc 0 1") {
		for _, id := range []string{"2", "-1", "7", "8", "9223372036854775807", "-9223372036854775808"} {
			tells(t, c, "mut "+id+" "+line, "error 4")
		}
	}
	for _, line := range wrong {
		all(t, c, "error 2", "mut 0 "+line, "mut 1 "+line)
	}
	if c.World() != nil {
		t.Error("a program needs no world")
	}
	tells(t, c, "turn 9", "ok 0", "mut 2 safe", "error 4", "mut 2 hello", "error 4")
	for _, line := range append(wrong, "safe") {
		tells(t, c, "mut 1 "+line, "error 11")
	}
}

// A program has so many operations, and no more.
func TestFullProgram(t *testing.T) {
	c := console.New()
	for range api.MaxProgram {
		tells(t, c, "mut 1 safe", "ok")
	}
	tells(t, c, "mut 1 safe", "error 13", "mut 1 hello", "error 2", "mut 1 ", "error 2", "mut 2 safe", "error 4", "mut 0 safe", "ok", "mut 1 alloc 0 1", "error 13")
	tells(t, c, "turn 1000", "ok 501", "turn 1000", "ok 1001", "state", "idle 6000 0 done", "mut 1 safe", "error 11", "event 1000", "5998 1 did 999 0 0")
	tells(t, c, "config 4 32 2 4 2 4 8", "ok", "mut 1 safe", "ok")
}

// Picks are done one by one; those ahead of one that is refused stay done.
func TestPick(t *testing.T) {
	c := with(t, "mut 0 safe", "mut 1 safe", "mut 1 drop 0", "mut 0 drop 3")
	tells(t, c,
		"pick 0", "ok 0",
		"pick 0 1", "ok 1",
		"pick 3", "ok 1",
		"pick 1 1 2 1 0 0", "ok 4",
		"event 0", "1 0 did 0 0 0",
		"event 1", "4 1 did 0 0 0",
		"event 2", "6 2 start 0 0 1",
		"event 3", "7 1 did 1 0 0",
		"state", "arm 10 1 busy",
		"pick 4", "error 4",
		"pick -1 0", "error 4",
		"state", "arm 10 1 busy",
		"pick 0 0 9 0 0", "error 4",
		"state", "arm 12 1 done",
		"event 4", "11 0 did 1 0 0",
		"pick 1 9223372036854775807", "error 4",
		"pick -9223372036854775808", "error 4",
		"state", "arm 13 1 busy", // as the mutator 1 is answering
		"pick"+strings.Repeat(" 0", 1000), "ok 5",
		"pick 1", "ok 5",
		"state", "arm 1014 1 done",
	)
}

// Turns are picks of all mutators, and then of the collector, in their order.
func TestTurn(t *testing.T) {
	lines := []string{"config 2 16 3 2 1 1 1", "mut 0 alloc 0 1", "mut 1 safe", "mut 2 alloc 1 3", "mut 2 set 0 1", "mut 0 drop 0"}
	c, hand := with(t, lines...), with(t, lines...)
	for _, n := range []int{0, 1, 2, 0, 17, 100, 0} {
		for range n {
			hand.Do("pick 0 1 2 3")
		}
		if got, want := c.Do("turn "+strconv.Itoa(n)), "ok "+strconv.Itoa(len(c.World().Events()))+"\n"; got != want {
			t.Errorf("turn %d: %q; want %q", n, got, want)
		}
		tells(t, c, "state", strings.TrimSuffix(hand.Do("state"), "\n"))
		if !slices.Equal(c.World().Events(), hand.World().Events()) {
			t.Errorf("turn %d: other events than by hand", n)
		}
		if n == 17 {
			tells(t, c, "wish", strings.TrimSuffix(hand.Do("wish"), "\n"))
		}
	}
	all(t, c, "error 4", "turn -1", "turn 1001", "turn 9223372036854775807", "turn -9223372036854775808")
	tells(t, c, "state", "idle 481 1 done", "turn 1000", "ok 9", "state", "idle 4481 1 done")
}

// A wish is one pick, and is forgotten when the cycle begins.
func TestWish(t *testing.T) {
	for _, c := range []*console.Console{with(t), with(t, "config 1 16 1 1 0 1 1"), with(t, "config 1 16 8 1 0 1 1")} {
		tells(t, c, "wish", "ok 0", "wish", "ok 0", "state", "idle 2 0 done")
		muts := c.World().Config().Muts
		if c.World().Idle() {
			t.Error("nothing is wished")
		}
		collects := "pick " + strconv.Itoa(muts)
		tells(t, c, collects, "ok 1", "event 0", "2 "+strconv.Itoa(muts)+" start 0 0 1", "state", "arm 3 1 done", "turn 100", "ok 3", "turn 100", "ok 3", "wish", "ok 3", collects, "ok 4")
	}
}

// There are so many picks, and no more; what is refused is told as the world tells it.
func TestMostPicks(t *testing.T) {
	c := with(t, "mut 0 safe")
	for range 33 {
		tells(t, c, "turn 1000", "ok 1")
	}
	tells(t, c, "turn 333", "ok 1", "state", "idle 99999 0 done", "turn 0", "ok 1", "turn 2", "error 3", "state", "idle 100000 0 done")
	tells(t, c, "turn 1", "error 3", "wish", "error 3", "pick 0", "error 3", "pick 0 9", "error 3", "pick 9", "error 4", "turn 1001", "error 4", "turn 0", "ok 1", "event 0", "3 0 did 0 0 0", "state", "idle 100000 0 done")
	tells(t, c, "config 4 32 2 4 2 4 8", "ok", "wish", "ok 0", "pick 2", "ok 1")
}

func TestEvent(t *testing.T) {
	c := with(t, "mut 0 alloc 0 0", "mut 0 alloc 0 0", "mut 0 load 1 2 0")
	tells(t, c, "turn 30", "ok 3", "wish", "ok 3", "turn 90", "ok 7")
	tells(t, c,
		"event 0", "57 0 did 0 0 1",
		"event 1", "69 0 did 1 0 3",
		"event 2", "75 0 did 2 6 0",
		"event 3", "93 2 start 0 0 1",
	)
	for place, event := range c.World().Events()[4:] {
		words := strings.Fields(c.Do("event " + strconv.Itoa(4+place)))
		kind := []string{"", "did", "start", "marked", "rested", "freed"}[event.Kind]
		if want := []string{strconv.Itoa(event.Pick), "2", kind, "0", "0", strconv.Itoa(event.Value)}; !slices.Equal(words, want) {
			t.Errorf("event %d: %q; want %q", 4+place, words, want)
		}
	}
	all(t, c, "error 12", "event 7", "event 8", "event -1", "event 9223372036854775807", "event -9223372036854775808")
}

func TestReg(t *testing.T) {
	c := with(t, "config 4 16 3 2 0 1 1", "mut 1 alloc 1 0", "mut 1 alloc 0 0", "mut 2 alloc 1 15")
	tells(t, c, "reg 1 1", "ok 0", "turn 60", "ok 3")
	tells(t, c, "reg 0 0", "ok 0", "reg 0 1", "ok 0", "reg 1 0", "ok 3", "reg 1 1", "ok 1", "reg 2 0", "ok 0", "reg 2 1", "ok 17")
	all(t, c, "error 4", "reg 3 0", "reg -1 0", "reg 0 2", "reg 2 2", "reg 0 -1", "reg 9223372036854775807 0", "reg 0 9223372036854775807", "reg -9223372036854775808 -9223372036854775808")
}

func TestCell(t *testing.T) {
	c := with(t, "config 4 16 1 2 3 1 1", "mut 0 alloc 0 0", "mut 0 alloc 1 0", "mut 0 set 0 1", "mut 0 set 2 0")
	tells(t, c, "cell 2", "ok 0", "turn 60", "ok 4", "cell 0", "ok 3", "cell 1", "ok 0", "cell 2", "ok 1")
	all(t, c, "error 4", "cell 3", "cell -1", "cell 9223372036854775807", "cell -9223372036854775808")
	tells(t, c, "config 4 16 1 2 0 1 1", "ok", "cell 0", "error 4")
}

// What garbage is isn't an object any more behind a cycle.
func TestLive(t *testing.T) {
	c := with(t, "config 4 16 1 2 1 1 1", "mut 0 alloc 0 1", "mut 0 alloc 1 1", "mut 0 store 0 0 1", "mut 0 store 1 0 0", "mut 0 drop 0", "mut 0 drop 1", "mut 0 alloc 0 1")
	tells(t, c, "live", "ok 0 0")
	seen := map[string]bool{}
	for range 60 {
		c.Do("pick 0")
		seen[c.Do("live")] = true
	}
	for _, want := range []string{"ok 0 0\n", "ok 1 0\n", "ok 2 0\n", "ok 2 2\n", "ok 3 2\n"} {
		if !seen[want] {
			t.Errorf("live never answers %q", want)
		}
	}
	if len(seen) != 5 {
		t.Error("live answers:", seen)
	}
	tells(t, c, "wish", "ok 7", "turn 200", "ok 12", "live", "ok 1 0", "free 0", "ok 7")
}

// The phases have their names, whatever picks there are, and programs are done or aren't.
func TestState(t *testing.T) {
	c := with(t, "config 1 16 1 1 1 1 1", "mut 0 safe", "mut 0 alloc 0 1")
	tells(t, c, "state", "idle 0 0 busy", "pick 0", "ok 0", "state", "idle 1 0 busy", "pick 0", "ok 1", "state", "idle 2 0 busy")
	for c.Do("state"); !c.World().Done(); {
		c.Do("pick 0")
	}
	tells(t, c, "state", "idle 15 0 done", "wish", "ok 2", "pick 1", "ok 3", "state", "arm 17 1 done", "pick 0", "ok 3", "state", "arm 18 1 busy")
	var names []string // back from drain to trace, as the register's object is painted when it is handed over
	for !c.World().Idle() {
		name, _, _ := strings.Cut(c.Do("state"), " ")
		names = append(names, name)
		c.Do("turn 1")
	}
	if got, want := slices.Compact(names), []string{"arm", "sync", "scan", "trace", "drain", "trace", "drain", "sweep", "off"}; !slices.Equal(got, want) {
		t.Errorf("the phases: %q; want %q", got, want)
	}
	tells(t, c, "wish", "ok 5", "pick 1", "ok 6", "config 1 16 1 1 1 1 1", "ok", "state", "idle 0 0 done")
}

func TestFree(t *testing.T) {
	c := with(t, "config 4 20 1 4 0 1 1", "mut 0 alloc 0 0", "mut 0 alloc 1 3", "mut 0 alloc 2 7", "mut 0 alloc 3 15")
	tells(t, c, "free 0", "ok 0", "turn 99", "ok 4", "free 0", "ok 9", "free 1", "ok 4", "free 2", "ok 1", "free 3", "ok 0")
	all(t, c, "error 1", "free 4", "free -1", "free 9223372036854775807", "free -9223372036854775808")
}

// right are lines, one of each first word, as they should be.
func right() []string {
	return []string{"config 4 32 2 4 2 4 8", "mut 0 safe", "pick 0", "turn 1", "wish", "event 0", "reg 0 0", "cell 0", "live", "state", "free 0"}
}

// malformed are lines of another first word, another number of words, or a word that isn't a number where one is.
func malformed() []string {
	l := []string{
		" ", "  ", "hello", "0", "\n", "\r", "\x00", "\xff", "Live", "LIVE", "liv", "lives", "live\n", "live\r", "\tlive", "live\tstate", "stats", "config", "mut", "pick", "turn", "event", "reg", "cell", "free",
		"mut 0", "mut x", "mut x safe", "mut  safe", "mut 00 safe", "mut -0 safe", "mut safe", "mut safe 0", "mut 0\tsafe", "mut 9", "mut -1", "reg 0", "config 4 32 2 4 2 4", "config 4", "config 4 32 2 4 2 4 8 9", "config 0 0 0 0 0 0", "turn 1 1", "turn 1001 1", "turn -1 x", "event 0 0", "reg 0 0 0", "cell 0 0", "free 4 0", "wish 1", "live 1", "state 0",
		"turn" + strings.Repeat(" ", 1<<20), "pick" + strings.Repeat(" 0", 1<<18) + " x", "pick " + strings.Repeat("9", 1<<20),
	}
	for _, line := range right() {
		l = append(l, line+" ", " "+line, line+"\n", line+"\r", line+" x", line+",", strings.ToUpper(line), strings.Replace(line, " ", "  ", 1)+" ")
		words := strings.Split(line, " ")
		for place := range words[1:] {
			if words[0] == "mut" && place > 0 {
				continue
			}
			for _, word := range []string{"", "-", "+", "+1", "-0", "00", "01", "1.0", "0x1", "1e1", "x", "one", "\u0661", "9223372036854775808", "-9223372036854775809", "99999999999999999999"} {
				broken := slices.Clone(words)
				broken[1+place] = word
				l = append(l, strings.Join(broken, " "))
			}
		}
	}
	return slices.DeleteFunc(l, func(line string) bool { return strings.HasPrefix(line, "mut 0 ") })
}

// What is malformed is told ahead of all else, and changes nothing.
func TestMalformed(t *testing.T) {
	c := with(t, "mut 0 safe")
	all(t, c, "error 2", malformed()...)
	if c.World() != nil {
		t.Error("what is malformed makes a world")
	}
	tells(t, c, "mut 0 safe", "ok", "turn 9", "ok 2")
	w := c.World()
	all(t, c, "error 2", malformed()...)
	tells(t, c, "state", "idle 27 0 done")
	if c.World() != w || len(w.Events()) != 2 {
		t.Error("what is malformed changes the world")
	}
}

// The world is made at the first line that needs it, whatever that answers, unless it looks at its number ahead of it.
func TestNeeds(t *testing.T) {
	for line, needs := range map[string]bool{
		"": false, "config 1 16 1 1 1 1 1": false, "config 1 16 1 1 1 1 0": false, "mut 0 safe": false, "mut 9 safe": false, "mut 0 hello": false, "turn 1001": false, "turn -1": false, "free 4": false, "free -1": false,
		"pick 0": true, "pick 9": true, "turn 0": true, "turn 1": true, "wish": true, "event 0": true, "event -1": true, "reg 0 0": true, "reg 9 9": true, "cell 0": true, "cell 9": true, "live": true, "state": true, "free 0": true, "free 3": true,
	} {
		for _, ahead := range []string{"", "mut 0 safe", "live\nconfig 4 32 2 4 2 4 8"} {
			c := console.New()
			c.Run(ahead)
			c.Do(line)
			if (c.World() != nil) != needs {
				t.Errorf("%q: there is a world: %v", line, !needs)
			}
			if w := c.World(); w != nil {
				for _, other := range right()[1:] {
					if c.Do(other); c.World() != w {
						t.Errorf("%q, %q: there is another world", line, other)
					}
				}
			}
		}
	}
}
