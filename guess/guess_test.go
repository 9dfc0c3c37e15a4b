package guess_test

import (
	"reflect"
	"slices"
	"testing"

	"dustpan/api"
	"dustpan/config"
	"dustpan/fair"
	"dustpan/guess"
)

// The same seed has the same numbers, and another one others, all of them below what is asked.
func TestBy(t *testing.T) {
	a, b, c := guess.By(1), guess.By(1), guess.By(2)
	times, same := make([]int, 7), 0
	for range 7000 {
		n := a(7)
		if n != b(7) {
			t.Fatal("the same seed has another number")
		}
		if n == c(7) {
			same++
		}
		times[n]++
	}
	if slices.Min(times) < 700 || slices.Max(times) > 1300 || same > 1500 {
		t.Error("the numbers aren't mixed:", times, same)
	}
}

func TestScripts(t *testing.T) {
	kinds := map[int]int{}
	for seed := range uint64(200) {
		roll, other := guess.By(seed), guess.By(seed)
		c := guess.Config(roll)
		if !config.Right(c) || c != guess.Config(other) {
			t.Fatal("Config:", c)
		}
		l := guess.Programs(roll, c, 20)
		if !reflect.DeepEqual(l, guess.Programs(other, c, 20)) || len(l) != c.Muts {
			t.Fatal("Programs:", l)
		}
		for _, program := range l {
			if len(program) != 20 {
				t.Fatal("operations:", len(program))
			}
			for _, o := range program {
				kinds[o.Kind]++
			}
		}
		picks := guess.Picks(roll, c, 200)
		if !slices.Equal(picks, guess.Picks(other, c, 200)) || len(picks) < 200 || slices.Min(picks) < 0 || slices.Max(picks) > c.Muts+1 {
			t.Fatal("Picks:", picks)
		}
	}
	for kind := api.Alloc; kind <= api.Safe; kind++ {
		if kinds[kind] < 500 {
			t.Errorf("only %d operations of the kind %d", kinds[kind], kind)
		}
	}
	if len(kinds) != 8 {
		t.Error("kinds:", kinds)
	}
}

// Rows are fair by twice as many picks as one has, less one.
func TestRows(t *testing.T) {
	for seed := range uint64(200) {
		roll := guess.By(seed)
		who := 1 + roll(6)
		n := who + roll(10)
		var l []int
		for range 20 {
			l = append(l, guess.Row(roll, who, n)...)
		}
		if len(l) != 20*n || slices.Min(l) < 0 || slices.Max(l) >= who || !fair.Fair(l, who, 2*n-1) {
			t.Fatalf("rows of %d picks of %d: %v", n, who, l)
		}
	}
}
