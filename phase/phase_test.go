package phase_test

import (
	"math"
	"slices"
	"strings"
	"testing"

	"dustpan/api"
	"dustpan/phase"
)

// said is what there is to tell of a phase.
type said struct {
	name        string
	asks, marks bool
	nexts       []int
}

// all are the phases by their numbers, as the document writes them.
func all() []said {
	return []said{
		{"idle", false, false, []int{1}},
		{"arm", true, true, []int{2}},
		{"sync", true, true, []int{3}},
		{"scan", true, true, []int{4}},
		{"trace", false, true, []int{5}},
		{"drain", true, true, []int{4, 6}},
		{"sweep", false, false, []int{7}},
		{"off", true, false, []int{0}},
	}
}

// noPhases are numbers of no phase.
func noPhases() []int {
	return []int{math.MinInt, -8, -7, -2, -1, 8, 9, 16, 256, 1 << 32, 1<<32 + 4, math.MaxInt}
}

// numbers are those of all phases, and of none.
func numbers() []int {
	return append(noPhases(), 0, 1, 2, 3, 4, 5, 6, 7)
}

// goes tells whether a cycle goes so, as the document writes it.
func goes(from, to int) bool {
	l := all()
	return from >= 0 && from < len(l) && slices.Contains(l[from].nexts, to)
}

func TestPhasesAreNumbered(t *testing.T) {
	l := []int{api.Idle, api.Arm, api.Sync, api.Scan, api.Trace, api.Drain, api.Sweep, api.Off}
	for p, constant := range l {
		if p != constant {
			t.Error(l)
		}
	}
}

func TestEachPhase(t *testing.T) {
	for p, want := range all() {
		if !phase.Is(p) || phase.Name(p) != want.name {
			t.Errorf("%d: %v, %q; want %q", p, phase.Is(p), phase.Name(p), want.name)
		}
		if got, ok := phase.ByName(want.name); !ok || got != p {
			t.Errorf("ByName(%q): %d, %v", want.name, got, ok)
		}
		if phase.Asks(p) != want.asks || phase.Marks(p) != want.marks {
			t.Errorf("%s: Asks %v, Marks %v", want.name, phase.Asks(p), phase.Marks(p))
		}
		if l := phase.Nexts(p); !slices.Equal(l, want.nexts) {
			t.Errorf("Nexts(%s): %v; want %v", want.name, l, want.nexts)
		}
	}
}

func TestNoPhases(t *testing.T) {
	for _, p := range noPhases() {
		if phase.Is(p) || phase.Name(p) != "" || phase.Asks(p) || phase.Marks(p) {
			t.Errorf("%d: %v, %q, %v, %v", p, phase.Is(p), phase.Name(p), phase.Asks(p), phase.Marks(p))
		}
		if l := phase.Nexts(p); len(l) != 0 {
			t.Errorf("Nexts(%d): %v", p, l)
		}
	}
}

func TestNoNames(t *testing.T) {
	texts := []string{"", " ", "0", "4", "rest", "marked", "idlearm", "idle arm", "on", "\x00", "\xff", strings.Repeat("sweep", 1000)}
	for _, want := range all() {
		texts = append(texts, strings.ToUpper(want.name), strings.ToUpper(want.name[:1])+want.name[1:],
			want.name+" ", " "+want.name, want.name+"s", want.name+"\x00", want.name+"\n", want.name[1:], want.name[:len(want.name)-1])
	}
	for _, s := range texts {
		if p, ok := phase.ByName(s); ok || p != 0 {
			t.Errorf("ByName(%q): %d, %v", s, p, ok)
		}
	}
}

func TestMayOfEachTwo(t *testing.T) {
	for _, from := range numbers() {
		for _, to := range numbers() {
			if phase.May(from, to) != goes(from, to) {
				t.Errorf("May(%d, %d): %v", from, to, phase.May(from, to))
			}
		}
	}
}

func TestNextsIsNewMemory(t *testing.T) {
	l, m := phase.Nexts(api.Drain), phase.Nexts(api.Drain)
	clear(l[:cap(l)])
	if !slices.Equal(m, []int{4, 6}) {
		t.Error("two answers share memory:", m)
	}
	_ = append(m[:0], 9, 9, 9)
	if got := phase.Nexts(api.Drain); !slices.Equal(got, []int{4, 6}) || !phase.May(api.Drain, api.Trace) || !phase.May(api.Drain, api.Sweep) {
		t.Error("an answer changes the table:", got)
	}
}

func TestPathOfNoneAndOfOne(t *testing.T) {
	if !phase.Path() || !phase.Path([]int{}...) {
		t.Error("Path of none")
	}
	for p := range all() {
		if !phase.Path(p) {
			t.Error("Path of", p)
		}
	}
	for _, p := range noPhases() {
		if phase.Path(p) {
			t.Error("Path of", p)
		}
	}
}

// TestPathsOfUpToThree asks of all rows of two and of three numbers.
func TestPathsOfUpToThree(t *testing.T) {
	for _, a := range numbers() {
		for _, b := range numbers() {
			if phase.Path(a, b) != goes(a, b) {
				t.Errorf("Path(%d, %d): %v", a, b, phase.Path(a, b))
			}
			for _, c := range numbers() {
				if phase.Path(a, b, c) != (goes(a, b) && goes(b, c)) {
					t.Errorf("Path(%d, %d, %d): %v", a, b, c, phase.Path(a, b, c))
				}
			}
		}
	}
}

// TestPathsOfWholeCycles breaks a long path at each of its places.
func TestPathsOfWholeCycles(t *testing.T) {
	var l []int
	for range 3 {
		l = append(l, 0, 1, 2, 3, 4, 5, 4, 5, 4, 5, 6, 7, 0, 1, 2, 3, 4, 5, 6, 7)
	}
	was := slices.Clone(l)
	for end := range len(l) + 1 {
		for begin := range end + 1 {
			if !phase.Path(l[begin:end]...) {
				t.Fatal("Path of", l[begin:end])
			}
		}
	}
	for i := range l {
		for _, n := range append(noPhases(), l[i]) { // the same one twice is no way of a cycle
			broken := slices.Insert(slices.Clone(l), i, n)
			if phase.Path(broken...) {
				t.Fatal("Path of", broken)
			}
		}
	}
	if !slices.Equal(l, was) {
		t.Error("what was handed in has changed:", l)
	}
}

func TestExamples(t *testing.T) {
	if !phase.May(api.Drain, api.Trace) {
		t.Error("May(Drain, Trace)")
	}
	if l := phase.Nexts(api.Drain); !slices.Equal(l, []int{4, 6}) {
		t.Error("Nexts(Drain):", l)
	}
}
