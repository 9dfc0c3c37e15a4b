package console_test

import (
	"fmt"
	"slices"
	"strings"
	"testing"

	"dustpan/api"
	"dustpan/class"
	"dustpan/config"
	"dustpan/console"
	"dustpan/fair"
	"dustpan/ghost"
	"dustpan/guess"
	"dustpan/mutator"
	"dustpan/op"
	"dustpan/replay"
	"dustpan/stats"
	"dustpan/tape"
)

// watch is a console whose world is looked at by each pick.
type watch struct {
	*console.Console
	config   api.Config
	programs [][]api.Op
	replay   *replay.Replay
	seen     int          // so many events
	garbage  []int        // when the newest cycle began
	began    int          // the pick by which it did
	young    map[int]bool // what was born since then by mutators that had answered Scan
	told     map[int]int  // how many events there were of each kind
	refused  int          // how often memory was
}

// configLine is a config's line.
func configLine(c api.Config) string {
	return fmt.Sprintf("config %d %d %d %d %d %d %d", c.Blocks, c.Words, c.Muts, c.Regs, c.Cells, c.Log, c.Stack)
}

// bare is programs without what no operation's line has.
func bare(programs [][]api.Op) [][]api.Op {
	for _, program := range programs {
		for i, o := range program {
			program[i] = op.Bare(o)
		}
	}
	return programs
}

// watched is a watch of a config, whose programs have n operations by a rule.
func watched(t *testing.T, roll guess.Rule, c api.Config, n int) *watch {
	t.Helper()
	w := &watch{Console: with(t, configLine(c)), config: c, programs: bare(guess.Programs(roll, c, n)), young: map[int]bool{}, told: map[int]int{}}
	for id, program := range w.programs {
		for _, o := range program {
			line, _ := op.Line(o)
			tells(t, w.Console, fmt.Sprint("mut ", id, " ", line), "ok")
		}
	}
	var e api.Errno
	if w.replay, e = replay.New(c, w.programs...); e != api.OK {
		t.Fatal("no replay:", e)
	}
	return w
}

// does does a pick, behind which all that is promised of every script holds.
func (w *watch) does(t *testing.T, who int) {
	t.Helper()
	if got := w.Do(fmt.Sprint("pick ", who)); !strings.HasPrefix(got, "ok ") {
		t.Fatalf("the pick of %d: %q", who, got)
	}
	if f, ok := ghost.Sound(w.World()); !ok {
		t.Fatal("not sound:", f)
	}
	l := w.World().Since(w.seen)
	w.seen += len(l)
	for _, e := range l {
		w.told[e.Kind]++
		w.take(t, e)
	}
	if !w.replay.Same(w.World()) {
		t.Fatal("not as the graph, behind the pick of", who)
	}
}

// take holds an event against what is promised.
func (w *watch) take(t *testing.T, e api.Event) {
	t.Helper()
	switch e.Kind {
	case api.Did:
		w.ends(t, e)
	case api.Start:
		w.garbage, w.began = ghost.Garbage(w.World()), e.Pick
		clear(w.young)
	case api.Marked:
		if !ghost.Painted(w.World()) {
			t.Fatal("not all that is reached is painted:", e)
		}
	case api.Freed:
		if w.young[e.Value] {
			t.Fatal("what was born behind Scan is freed:", e)
		}
	case api.Rested:
		if l := ghost.Left(w.garbage, w.World().Events(), w.began); len(l) > 0 {
			t.Fatal("what was garbage isn't freed:", l)
		}
		w.rests(t)
	}
}

// ends is an operation that ended.
func (w *watch) ends(t *testing.T, e api.Event) {
	t.Helper()
	if !w.replay.Take(e) {
		t.Fatal("the graph tells something else:", e)
	}
	o := w.programs[e.Who][e.Op]
	switch {
	case e.Code == api.ErrMemory:
		w.refused++
		k, _ := class.Of(o.B)
		if l := w.World().Shared().Heap.Table().Unassigned(); len(l) > 0 || w.Do(fmt.Sprint("free ", k)) != "ok 0\n" {
			t.Fatal("memory is refused, though there is some:", e, l)
		}
	case o.Kind == api.Alloc && e.Code == api.OK && w.World().Mut(e.Who).Color() == w.World().Coll().Color():
		w.young[e.Value] = true // by a mutator that has answered Scan, as the collector has the color from Start on
	}
}

// rests is the end of a cycle: all have one color, and nothing is logged.
func (w *watch) rests(t *testing.T) {
	t.Helper()
	s, color := w.World().Shared(), w.World().Coll().Color()
	for _, a := range s.Heap.Objects() {
		if k, _ := s.Heap.Color(a); k != color {
			t.Fatal("an object of the other color:", a)
		}
	}
	for id := range w.config.Muts {
		if m := w.World().Mut(id); m.Color() != color || m.Mode() != mutator.Off || len(m.Logged()) > 0 || s.Boxes[id].Len() > 0 {
			t.Fatal("a mutator of the other color, or one that logs:", id)
		}
	}
	if s.Flag.Up() || !s.Queue.Rests() || !s.Board.All() || len(w.World().Coll().Stacked()) > 0 {
		t.Fatal("not all rests")
	}
}

// few holds how many picks operations and answers took against their bounds.
func (w *watch) few(t *testing.T) {
	t.Helper()
	for id := range w.config.Muts {
		if o, a := w.World().Mut(id).Most(); o > config.OpPicks(w.config) || a > config.AnswerPicks(w.config) {
			t.Fatal("too many picks of", id, o, a)
		}
	}
}

// turns is so many turns, pick by pick.
func (w *watch) turns(t *testing.T, n int) {
	t.Helper()
	for range n {
		for who := range w.config.Muts + 1 {
			w.does(t, who)
		}
	}
}

// cycle has a cycle go from its wish to its end.
func (w *watch) cycle(t *testing.T) {
	t.Helper()
	for w.does(t, w.config.Muts+1); !w.World().Idle(); {
		w.turns(t, 1)
	}
}

// P1 to P4, and P6: of every script, fair or not, behind every pick.
func TestEveryScript(t *testing.T) {
	told, refused := map[int]int{}, 0
	for seed := range uint64(60) {
		roll := guess.By(seed + 100)
		w := watched(t, roll, guess.Config(roll), 300)
		for _, who := range guess.Picks(roll, w.config, 2000) {
			w.does(t, who)
		}
		w.few(t)
		for kind, n := range w.told {
			told[kind] += n
		}
		refused += w.refused
	}
	if told[api.Did] < 4000 || told[api.Rested] < 100 || told[api.Freed] < 200 || refused < 50 {
		t.Error("too few came:", told, refused)
	}
}

// P5: with picks that are fair by K marking ends, and a cycle, within their bounds.
func TestFairPicks(t *testing.T) {
	for seed := range uint64(40) {
		roll := guess.By(seed + 700)
		w := watched(t, roll, guess.Config(roll), 300)
		who := w.config.Muts + 1 + roll(2) // with wishes, or without any
		n := who + roll(20)
		var row []int
		for w.told[api.Rested] < 3 {
			if w.World() == nil || w.World().Idle() {
				w.does(t, w.config.Muts+1)
			}
			for _, one := range guess.Row(roll, who, n) {
				w.does(t, one)
				row = append(row, one)
			}
		}
		w.few(t)
		k := fair.Gap(row, who)
		if k > 2*n-1 {
			t.Fatal("the picks aren't fair:", k)
		}
		for _, x := range stats.Cycles(w.World().Events()...) {
			if x.Rested >= 0 && (x.Marked-x.Start > config.Marking(w.config, k) || x.Rested-x.Start > config.Cycle(w.config, k)) {
				t.Fatal(w.config, "has too long a cycle:", stats.Line(x))
			}
		}
	}
}

// P5: no mutator waits: wherever a cycle is, and whoever isn't picked, an operation ends.
func TestNobodyWaits(t *testing.T) {
	phases := map[int]bool{}
	for seed := range uint64(40) {
		roll := guess.By(seed + 1500)
		w := watched(t, roll, guess.Config(roll), 300)
		for range 10 {
			for _, who := range guess.Picks(roll, w.config, 1+roll(200)) {
				w.does(t, who)
			}
			phases[w.World().Coll().Phase()] = true
			id := roll(w.config.Muts)
			m := w.World().Mut(id)
			ended := len(m.Results())
			for range config.OpPicks(w.config) + config.AnswerPicks(w.config) {
				w.does(t, id)
			}
			if !m.Done() && len(m.Results()) == ended {
				t.Fatal("a mutator waits:", id)
			}
		}
		w.few(t)
	}
	if len(phases) != 8 {
		t.Error("just by these phases:", phases)
	}
}

// P6: behind programs that have ended, and a cycle, just what is reached is left.
func TestJustWhatIsReached(t *testing.T) {
	left := 0
	for seed := range uint64(60) {
		roll := guess.By(seed + 2500)
		w := watched(t, roll, guess.Config(roll), 60)
		for _, who := range guess.Picks(roll, w.config, 200) {
			w.does(t, who)
		}
		for !w.World().Done() || !w.World().Idle() {
			w.turns(t, 1)
		}
		reach := ghost.Reach(w.World())
		w.cycle(t)
		if !slices.Equal(w.World().Shared().Heap.Objects(), reach) {
			t.Fatal("the objects:", w.World().Shared().Heap.Objects(), "of which are reached:", reach)
		}
		tells(t, w.Console, "live", fmt.Sprintf("ok %d 0", len(reach)))
		left += len(reach)
	}
	if left < 60 {
		t.Error("too few are left:", left)
	}
}

// events is all events of a console, as lines.
func events(c *console.Console) []string {
	var l []string
	for {
		line := strings.TrimSuffix(c.Do(fmt.Sprint("event ", len(l))), "\n")
		if line == "error 12" {
			return l
		}
		l = append(l, line)
	}
}

// parted is the lines of picks, so many each at most, by a rule; a wish is one in one way or the other.
func parted(roll guess.Rule, c api.Config, picks []int) string {
	text := ""
	for len(picks) > 0 {
		n := 1 + roll(min(len(picks), 30))
		if picks[0] == c.Muts+1 && roll(2) == 0 {
			text, picks = text+"wish\n", picks[1:]
			continue
		}
		text += "pick " + strings.Trim(fmt.Sprint(picks[:n]), "[]") + "\n"
		picks = picks[n:]
	}
	return text
}

// P7: a script that is written and read is the same, and its events are those of its world, however it is told.
func TestHoweverTold(t *testing.T) {
	all := 0
	for seed := range uint64(100) {
		roll := guess.By(seed + 3500)
		c := guess.Config(roll)
		s := tape.Script{Config: c, Programs: bare(guess.Programs(roll, c, 1+roll(60))), Picks: guess.Picks(roll, c, 1000)}
		text, e := tape.Write(s)
		read, _, f := tape.Read(text)
		if e != api.OK || f != api.OK || read.Config != c || !slices.EqualFunc(read.Programs, s.Programs, slices.Equal[[]api.Op]) || !slices.Equal(read.Picks, s.Picks) {
			t.Fatal("it isn't read as it was written:", text, e, f)
		}
		want, e := tape.Run(read)
		if e != api.OK {
			t.Fatal("Run:", e)
		}
		all += len(want)
		head := text[:strings.Index(text, "pick ")]
		for _, told := range []string{text, head + parted(roll, c, s.Picks), head + parted(roll, c, s.Picks)} {
			x := console.New()
			if got := x.Run(told); strings.Contains(got, "error") {
				t.Fatalf("Run(%q): %q", told, got)
			}
			if got := events(x); !slices.Equal(got, want) {
				t.Fatalf("told by %q: the events %q; want %q", told, got, want)
			}
		}
	}
	if all < 3000 {
		t.Error("too few events came:", all)
	}
}
