package spell_test

import (
	"math"
	"slices"
	"strconv"
	"strings"
	"testing"

	"dustpan/spell"
)

// none are words that are no numbers as they are spelt.
func none() []string {
	return []string{
		"", " ", "-", "+", "+1", "-0", "+0", "00", "01", "-01", "007", "--1", "1-", "1.", "1.0", "1e3", "0x1", "0b1", "0o7", "1_0", "x", "1x", " 1", "1 ", "1 2", "1\n", "1\r", "\t1", "1\x00", "\xff", "\u0661", "\uff11",
		"9223372036854775808", "-9223372036854775809", "18446744073709551616", "99999999999999999999", "NaN", "Inf", strings.Repeat("0", 1<<20), strings.Repeat("9", 1<<20),
	}
}

func TestNumbers(t *testing.T) {
	var l []int
	var words []string
	for _, n := range []int{math.MinInt, math.MinInt + 1, -1 << 32, -10, -9, -1, 0, 1, 9, 10, 99, 100, 1 << 32, math.MaxInt - 1, math.MaxInt} {
		word := strconv.Itoa(n)
		if got, ok := spell.Number(word); got != n || !ok {
			t.Errorf("Number(%q): %d, %v", word, got, ok)
		}
		l, words = append(l, n), append(words, word)
	}
	if got, ok := spell.Numbers(words...); !slices.Equal(got, l) || !ok {
		t.Errorf("Numbers(%q): %d, %v", words, got, ok)
	}
	if got, ok := spell.Numbers(); len(got) != 0 || !ok {
		t.Error("Numbers of none:", got, ok)
	}
}

func TestNone(t *testing.T) {
	for _, word := range none() {
		if n, ok := spell.Number(word); n != 0 || ok {
			t.Errorf("Number(%.20q): %d, %v", word, n, ok)
		}
		for at := range 3 {
			words := []string{"1", "2", "3"}
			words[at] = word
			if l, ok := spell.Numbers(words...); len(l) != 0 || ok {
				t.Errorf("Numbers(%.20q): %d, %v", words, l, ok)
			}
		}
	}
}

func TestLine(t *testing.T) {
	for _, x := range []struct {
		word string
		l    []int
		want string
	}{
		{"", nil, ""},
		{"ok", nil, "ok"},
		{"ok", []int{}, "ok"},
		{"ok", []int{0}, "ok 0"},
		{"pick", []int{1, -2, 30}, "pick 1 -2 30"},
		{"a b", []int{math.MinInt, math.MaxInt}, "a b -9223372036854775808 9223372036854775807"},
	} {
		if got := spell.Line(x.word, x.l...); got != x.want {
			t.Errorf("Line(%q, %d): %q", x.word, x.l, got)
		}
	}
}
