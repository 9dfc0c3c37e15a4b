package tape_test

import (
	"math"
	"slices"
	"strconv"
	"strings"
	"testing"

	"dustpan/api"
	"dustpan/guess"
	"dustpan/op"
	"dustpan/tape"
	"dustpan/world"
)

// small is a config of 3 mutators of 2 registers, and 1 cell.
func small() api.Config {
	return api.Config{Blocks: 2, Words: 16, Muts: 3, Regs: 2, Cells: 1, Log: 4, Stack: 5}
}

// ahead is small's line.
const ahead = "config 2 16 3 2 1 4 5\n"

// ops is the operations of lines.
func ops(t *testing.T, l ...string) []api.Op {
	t.Helper()
	var out []api.Op
	for _, line := range l {
		o, e := op.Parse(line)
		if e != api.OK {
			t.Fatalf("no line: %q", line)
		}
		out = append(out, o)
	}
	return out
}

// bare is a script of small without operations and picks.
func bare() tape.Script {
	return tape.Script{Config: small(), Programs: make([][]api.Op, 3)}
}

// picked is bare with picks.
func picked(picks ...int) tape.Script {
	s := bare()
	s.Picks = picks
	return s
}

// doing is bare with a program of one mutator.
func doing(id int, program ...api.Op) tape.Script {
	s := bare()
	s.Programs[id] = program
	return s
}

// equal tells whether two scripts are one; a list without elements is the same as none.
func equal(a, b tape.Script) bool {
	return a.Config == b.Config && slices.EqualFunc(a.Programs, b.Programs, slices.Equal[[]api.Op]) && slices.Equal(a.Picks, b.Picks)
}

// zero tells whether a script is as nothing.
func zero(s tape.Script) bool {
	return s.Config == api.Config{} && len(s.Programs) == 0 && len(s.Picks) == 0
}

// tells holds a script against its text, each of which is the other one's.
func tells(t *testing.T, s tape.Script, text string) {
	t.Helper()
	if got, e := tape.Write(s); got != text || e != api.OK {
		t.Errorf("Write(%v): %q, %d; want %q", s, got, e, text)
	}
	if got, n, e := tape.Read(text); !equal(got, s) || n != 0 || e != api.OK {
		t.Errorf("Read(%q): %v, %d, %d; want %v", text, got, n, e, s)
	}
}

// untold looks at whether a script is neither written nor run.
func untold(t *testing.T, s tape.Script) {
	t.Helper()
	if text, e := tape.Write(s); text != "" || e != api.ErrArg {
		t.Errorf("Write(%v): %q, %d", s, text, e)
	}
	if l, e := tape.Run(s); len(l) != 0 || e != api.ErrArg {
		t.Errorf("Run(%v): %q, %d", s, l, e)
	}
}

// runs looks at the lines and the error of what is run.
func runs(t *testing.T, s tape.Script, want api.Errno, lines ...string) {
	t.Helper()
	if l, e := tape.Run(s); !slices.Equal(l, lines) || e != want {
		t.Errorf("Run: %q, %d; want %q, %d", l, e, lines, want)
	}
}

// The chapter's example.
func TestExample(t *testing.T) {
	text := "config 1 16 1 1 0 1 1\nmut 0 drop 0\npick 0 0\n"
	s, n, e := tape.Read(text)
	if n != 0 || e != api.OK {
		t.Fatal("Read:", n, e)
	}
	tells(t, s, text)
	runs(t, s, api.OK, "1 0 did 0 0 0")
}

func TestTexts(t *testing.T) {
	tells(t, bare(), ahead)
	tells(t, tape.Script{Config: api.Config{Blocks: 4096, Words: 256, Muts: 1, Regs: 64, Cells: 0, Log: 256, Stack: 4096}, Programs: [][]api.Op{{}}, Picks: []int{}}, "config 4096 256 1 64 0 256 4096\n")
	for id := range 3 {
		n := strconv.Itoa(id)
		tells(t, doing(id, ops(t, "safe")...), ahead+"mut "+n+" safe\n")
		tells(t, doing(id, ops(t, "alloc 0 3", "store 1 -2 0", "load 99 0 5")...), ahead+"mut "+n+" alloc 0 3\nmut "+n+" store 1 -2 0\nmut "+n+" load 99 0 5\n")
	}
	s := picked(0, 1)
	s.Programs[0], s.Programs[2] = ops(t, "get 0 0", "drop 0"), ops(t, "set 0 1", "move -1 0")
	tells(t, s, ahead+"mut 0 get 0 0\nmut 0 drop 0\nmut 2 set 0 1\nmut 2 move -1 0\npick 0 1\n")
}

// Each kind of operation has its line, and each right config has its own.
func TestTextsOfKindsAndConfigs(t *testing.T) {
	for kind, line := range []string{"", "alloc 1 -2", "load 1 -2 3", "store 1 -2 3", "get 1 -2", "set 1 -2", "drop 1", "move 1 -2", "safe"} {
		if kind > 0 {
			tells(t, doing(1, op.Bare(api.Op{Kind: kind, A: 1, B: -2, C: 3})), ahead+"mut 1 "+line+"\n")
		}
	}
	for place, limits := range [][]int{{1, 4096}, {16, 256}, {1, 8}, {1, 64}, {0, 64}, {1, 256}, {1, 4096}} {
		for _, n := range limits {
			c := small()
			numbers := []*int{&c.Blocks, &c.Words, &c.Muts, &c.Regs, &c.Cells, &c.Log, &c.Stack}
			*numbers[place] = n
			words := []string{"config"}
			for _, at := range numbers {
				words = append(words, strconv.Itoa(*at))
			}
			tells(t, tape.Script{Config: c, Programs: make([][]api.Op, c.Muts)}, strings.Join(words, " ")+"\n")
		}
	}
}

// Picks are 20 to a line, and the last line has what is left.
func TestPicksOfALine(t *testing.T) {
	for n := range 85 {
		var picks []int
		text := ahead
		for i := range n {
			picks = append(picks, i%7-1)
			if i%20 == 0 {
				text += "pick"
			}
			text += " " + strconv.Itoa(i%7-1)
			if i%20 == 19 || i == n-1 {
				text += "\n"
			}
		}
		tells(t, picked(picks...), text)
	}
}

// A pick is any number, whether it is a world's or not.
func TestAnyPicks(t *testing.T) {
	tells(t, picked(math.MinInt, math.MinInt+1, -100, -10, -1, 0, 9, 10, 100, 1<<32, math.MaxInt), ahead+"pick -9223372036854775808 -9223372036854775807 -100 -10 -1 0 9 10 100 4294967296 9223372036854775807\n")
	tells(t, doing(2, api.Op{Kind: api.Load, A: math.MinInt, B: math.MaxInt, C: -1}), ahead+"mut 2 load -9223372036854775808 9223372036854775807 -1\n")
}

func TestUntoldConfigs(t *testing.T) {
	for place, n := range []int{0, 4097, 15, 257, 0, 9, 0, 65, -1, 65, 0, 257, 0, 4097} {
		s := bare()
		c := &s.Config
		*[]*int{&c.Blocks, &c.Words, &c.Muts, &c.Regs, &c.Cells, &c.Log, &c.Stack}[place/2] = n
		untold(t, s)
		s.Programs = make([][]api.Op, min(max(c.Muts, 0), 9))
		untold(t, s)
	}
	untold(t, tape.Script{})
	untold(t, tape.Script{Config: api.Config{Muts: -1}})
}

func TestUntoldPrograms(t *testing.T) {
	for n := range 10 {
		if n != 3 {
			s := bare()
			s.Programs = make([][]api.Op, n)
			untold(t, s)
		}
	}
	untold(t, tape.Script{Config: small(), Picks: []int{0}})
	for _, kind := range []int{math.MinInt, -1, 0, 9, 10, 1 << 32, 1<<32 + 1, math.MaxInt} {
		untold(t, doing(1, api.Op{Kind: kind}))
		untold(t, doing(2, api.Op{Kind: api.Safe}, api.Op{Kind: kind, A: 1}))
	}
	for kind, uses := range []int{0, 2, 3, 3, 2, 2, 1, 2, 0} {
		for place := uses; place < 3; place++ {
			o := api.Op{Kind: kind, A: 1, B: 1, C: 1}
			o = op.Bare(o)
			*[]*int{&o.A, &o.B, &o.C}[place] = -1
			untold(t, doing(0, o))
			untold(t, doing(2, api.Op{Kind: api.Drop}, o, api.Op{Kind: api.Drop}))
		}
	}
}

// A script has so many lines, whatever they are, and no more; that it may not be told comes ahead of that.
func TestMaxLines(t *testing.T) {
	for picks, most := range map[int]int{0: 399, 1: 398, 20: 398, 21: 397, 60: 396, 7960: 1, 7961: 0, 7980: 0} {
		s := picked(make([]int, picks)...)
		for id := range 3 { // so many in all, on each one's own, and parted among all
			s.Programs = make([][]api.Op, 3)
			s.Programs[id] = slices.Repeat(ops(t, "safe"), most)
			writesAll(t, s, picks)
		}
		s.Programs[0], s.Programs[2] = s.Programs[2][:most/3], s.Programs[2][most/3:]
		writesAll(t, s, picks)
		s.Programs[1] = append(s.Programs[1], api.Op{Kind: api.Safe})
		refusesLong(t, s)
		s.Programs[1][0].A = 1
		if text, e := tape.Write(s); text != "" || e != api.ErrArg {
			t.Error("Write of what is long and may not be told:", len(text), e)
		}
	}
	for _, n := range []int{7981, 7999, 8000, 8001, 100000, 1 << 20} {
		refusesLong(t, picked(make([]int, n)...))
	}
	refusesLong(t, doing(0, slices.Repeat(ops(t, "safe"), 1001)...))
	refusesLong(t, doing(2, slices.Repeat(ops(t, "safe"), 1<<20)...))
	s := picked(make([]int, 1<<20)...)
	s.Config.Log = 0
	untold(t, s)
}

// writesAll looks at whether a script of 400 lines is written, and read.
func writesAll(t *testing.T, s tape.Script, picks int) {
	t.Helper()
	text, e := tape.Write(s)
	if e != api.OK || strings.Count(text, "\n") != 400 || strings.Count(text, "pick") != (picks+19)/20 {
		t.Fatalf("Write of %d picks: %d lines, %d", picks, strings.Count(text, "\n"), e)
	}
	tells(t, s, text)
}

// refusesLong looks at whether a script isn't written.
func refusesLong(t *testing.T, s tape.Script) {
	t.Helper()
	if text, e := tape.Write(s); text != "" || e != api.ErrLong {
		t.Errorf("Write of %d picks: %d bytes, %d", len(s.Picks), len(text), e)
	}
}

// What is run is told up to the first pick that the world refuses, and so is what was told ahead of it.
func TestRun(t *testing.T) {
	s := bare()
	s.Programs[0], s.Programs[2] = ops(t, "alloc 0 1", "drop 0"), ops(t, "safe", "load 0 1 9")
	runs(t, s, api.OK)
	s.Picks = []int{2, 2, 4, 3, 2, 1, 0, 2}
	runs(t, s, api.OK, "1 2 did 0 0 0", "3 3 start 0 0 1")
	for _, wrong := range []int{math.MinInt, -1, 5, 6, 1 << 32, math.MaxInt} {
		for at, lines := range [][]string{{}, {}, {"1 2 did 0 0 0"}, {"1 2 did 0 0 0"}, {"1 2 did 0 0 0", "3 3 start 0 0 1"}} {
			x := s
			x.Picks = slices.Insert(slices.Clone(s.Picks), at, wrong, 0, -1)
			runs(t, x, api.ErrRange, lines...)
		}
		runs(t, picked(wrong), api.ErrRange)
	}
	s.Picks = append(slices.Repeat([]int{0}, 40), 4)
	s.Picks = append(s.Picks, slices.Repeat([]int{0, 1, 2, 3}, 100)...)
	l, e := tape.Run(s)
	var told []string // without their picks
	for _, line := range l {
		_, behind, _ := strings.Cut(line, " ")
		told = append(told, behind)
	}
	slices.Sort(told)
	want := []string{"0 did 0 0 1", "0 did 1 0 0", "2 did 0 0 0", "2 did 1 6 0", "3 freed 0 0 1", "3 marked 0 0 1", "3 rested 0 0 1", "3 start 0 0 1"}
	if e != api.OK || !slices.Equal(told, want) {
		t.Errorf("Run: %q, %d; want %q", l, e, want)
	}
}

// Run goes on up to the world's bounds, which are others than a text's.
func TestRunBounds(t *testing.T) {
	s := doing(1, slices.Repeat(ops(t, "safe"), 1000)...)
	s.Picks = slices.Repeat([]int{1}, 2001)
	if l, e := tape.Run(s); e != api.OK || len(l) != 1000 || l[999] != "1999 1 did 999 0 0" {
		t.Error("Run of the longest program:", len(l), e)
	}
	s.Programs[1] = append(s.Programs[1], api.Op{Kind: api.Safe})
	runs(t, s, api.ErrLong)
	s.Picks = []int{-1}
	runs(t, s, api.ErrLong)
	s.Programs[0] = []api.Op{{}} // named first
	runs(t, s, api.ErrArg)
	s = picked(slices.Repeat([]int{3}, api.MaxPicks)...)
	s.Picks[0] = 4
	runs(t, s, api.OK, "1 3 start 0 0 1")
	s.Picks = append(s.Picks, 0)
	runs(t, s, api.ErrLong, "1 3 start 0 0 1")
	s.Picks[api.MaxPicks] = 9
	runs(t, s, api.ErrRange, "1 3 start 0 0 1")
}

// What is run is told as the world tells it, pick by pick.
func TestRunIsTheWorlds(t *testing.T) {
	for seed := range uint64(200) {
		s := somehow(guess.By(seed))
		w, e := world.New(s.Config, s.Programs...)
		if e != api.OK {
			t.Fatal("New:", e)
		}
		for _, who := range s.Picks {
			if e = w.Pick(who); e != api.OK {
				break
			}
		}
		var l []string
		for _, x := range w.Events() {
			line, _ := tape.Event(x)
			l = append(l, line)
		}
		runs(t, s, e, l...)
	}
}

// What is handed in is neither changed nor kept, and what is answered is new memory.
func TestSharesNothing(t *testing.T) {
	program := ops(t, "alloc 0 1", "safe", "drop 0")
	picks := slices.Repeat([]int{0, 3}, 20)
	programs := [][]api.Op{program[:2], nil, nil, program}
	s := tape.Script{Config: small(), Programs: programs[:3], Picks: picks[:30]}
	text, _ := tape.Write(s)
	first, _ := tape.Run(s)
	if !slices.Equal(program, ops(t, "alloc 0 1", "safe", "drop 0")) || !slices.Equal(picks, slices.Repeat([]int{0, 3}, 20)) || len(programs[3]) != 3 || programs[1] != nil || s.Config != small() {
		t.Error("changed:", program, picks, programs)
	}
	want := slices.Clone(first)
	first[0] = "else"
	_ = append(first, "more")
	runs(t, s, api.OK, want...)
	x, _, _ := tape.Read(text)
	y, _, _ := tape.Read(text)
	_ = append(x.Programs[0], api.Op{Kind: api.Safe})
	_ = append(x.Picks, 9)
	x.Programs[0][0], x.Programs[1], x.Picks[0] = api.Op{}, program, 9
	if !equal(y, s) {
		t.Error("shared:", y)
	}
	tells(t, s, text)
}
