package op_test

import (
	"math"
	"math/big"
	"regexp"
	"strconv"
	"strings"
	"testing"

	"dustpan/api"
	"dustpan/op"
)

// tells looks at an operation's line, which is read as the bare one.
func tells(t *testing.T, o api.Op, line string) {
	t.Helper()
	if s, e := op.Line(o); s != line || e != api.OK {
		t.Errorf("Line(%v): %q, %d; want %q", o, s, e, line)
	}
	if got, e := op.Parse(line); got != op.Bare(o) || e != api.OK {
		t.Errorf("Parse(%q): %v, %d; want %v", line, got, e, op.Bare(o))
	}
}

// refuses looks at whether a text is no line.
func refuses(t *testing.T, s string) {
	t.Helper()
	if o, e := op.Parse(s); o != (api.Op{}) || e != api.ErrForm {
		t.Errorf("Parse(%q): %v, %d", s, o, e)
	}
}

func TestLines(t *testing.T) {
	for line, o := range map[string]api.Op{
		"alloc 0 0":     made(api.Alloc),
		"alloc 63 15":   made(api.Alloc, 63, 15),
		"load 1 0 -3":   made(api.Load, 1, 0, -3),
		"store 1 10 2":  made(api.Store, 1, 10, 2),
		"get 7 100":     made(api.Get, 7, 100),
		"set 100 7":     made(api.Set, 100, 7),
		"drop -10":      made(api.Drop, -10),
		"move 12 21":    made(api.Move, 12, 21),
		"safe":          made(api.Safe),
		"alloc -1 9999": made(api.Alloc, -1, 9999),
	} {
		tells(t, o, line)
	}
}

// What a kind doesn't use is in no line, and 0 in what is read.
func TestLinesAreBare(t *testing.T) {
	for kind, k := range kinds {
		want := k.name
		for _, n := range []int{5, -6, 7}[:len(k.uses)] {
			want += " " + strconv.Itoa(n)
		}
		tells(t, made(kind, 5, -6, 7), want)
	}
}

// Whatever the numbers are, as great as they may be, what is told is read.
func TestLinesOfAnyNumbers(t *testing.T) {
	numbers := []int{math.MinInt, math.MinInt + 1, -1 << 32, -100, -11, -10, -9, -1, 0, 1, 9, 10, 11, 99, 100, 1 << 32, math.MaxInt - 1, math.MaxInt}
	for kind, k := range kinds {
		for _, a := range numbers {
			for _, b := range numbers {
				for _, c := range numbers {
					want := []string{k.name}
					for _, n := range []int{a, b, c}[:len(k.uses)] {
						want = append(want, big.NewInt(int64(n)).String())
					}
					tells(t, made(kind, a, b, c), strings.Join(want, " "))
				}
			}
		}
	}
}

// Each kind has just its own count of numbers, each behind one blank, with its own word ahead.
func TestNoLinesByTheirWords(t *testing.T) {
	for _, k := range all() {
		for n := range 6 {
			if n == len(k.uses) && k.name != "" {
				continue
			}
			refuses(t, k.name+strings.Repeat(" 0", n))
			refuses(t, k.name+strings.Repeat(" 1", n))
		}
		line := k.name + strings.Repeat(" 1", len(k.uses))
		for _, s := range []string{
			" " + line, line + " ", line + "\n", "\n" + line, line + "\r", line + "\t", line + "\x00", line + " x", line + ",", line + " -",
			strings.ToUpper(line), k.name + " " + line[len(k.name):], line + line, line + " " + line, line + "\n" + line,
		} {
			refuses(t, s)
		}
	}
	for _, s := range []string{"", " ", "  ", "0", "1", "-", "6 1", "free 1", "drop1", "dropped 1", "dro 1", "d 1", "Drop 1", "dröp 1", "drop\t1", "drop\n1", "drop\u00a01", "drop,1", "mut 0 drop 1", "\xff", "\x00"} {
		refuses(t, s)
	}
}

// A number is written in just one way.
func TestNoLinesByTheirNumbers(t *testing.T) {
	for _, n := range []string{
		"", "-", "+", "+1", "-0", "+0", "00", "01", "-01", "007", "--1", "1-", "- 1", "1.", "1.0", "1e3", "0x1", "0b1", "0o7", "1_0", "x", "a", "\u0661", "\uff11", "1\x00", "1 ", " 1",
		"9223372036854775808", "-9223372036854775809", "18446744073709551616", "18446744073709551617", "-18446744073709551615", "99999999999999999999", "NaN", "Inf",
	} {
		for _, k := range all() {
			for place := range len(k.uses) {
				words := append([]string{k.name}, strings.Split("0 1 2", " ")[:len(k.uses)]...)
				words[1+place] = n
				refuses(t, strings.Join(words, " "))
			}
		}
	}
}

// Texts of any length are looked at and refused.
func TestNoLinesOfGreatLength(t *testing.T) {
	for _, s := range []string{
		strings.Repeat(" ", 1<<22), strings.Repeat("drop ", 1<<20), "drop " + strings.Repeat("0", 1<<22), "drop " + strings.Repeat("9", 1<<22), "drop -" + strings.Repeat("1", 1<<22), "drop 1" + strings.Repeat(" ", 1<<22), "load 1 2 3" + strings.Repeat(" 4", 1<<20), strings.Repeat("safe", 1<<20),
	} {
		if o, e := op.Parse(s); o != (api.Op{}) || e != api.ErrForm {
			t.Errorf("Parse of %q and so on: %v, %d", s[:12], o, e)
		}
	}
}

// plain reads a line by a pattern, and numbers of any greatness.
func plain(s string) (api.Op, bool) {
	const number = ` (0|-?[1-9][0-9]*)`
	for kind, k := range kinds {
		found := regexp.MustCompile(`\A` + k.name + strings.Repeat(number, len(k.uses)) + `\z`).FindStringSubmatch(s)
		if found == nil {
			continue
		}
		var l []int
		for _, word := range found[1:] {
			n, ok := new(big.Int).SetString(word, 10)
			if !ok || !n.IsInt64() {
				return api.Op{}, false
			}
			l = append(l, int(n.Int64()))
		}
		return made(kind, l...), true
	}
	return api.Op{}, false
}

// TestAgainstAPattern breaks lines by one byte at each of their places, and holds what is read against a plain reader.
func TestAgainstAPattern(t *testing.T) {
	read, refused := 0, 0
	look := func(s string) {
		want, ok := plain(s)
		if !ok {
			refused++
			refuses(t, s)
			return
		}
		read++
		tells(t, want, s)
	}
	for _, line := range []string{"alloc 0 15", "load 1 0 -3", "store 1 7 0", "get 10 0", "set 0 -10", "drop 9", "move 0 1", "safe", "drop 9223372036854775807"} {
		look(line)
		for i := range len(line) + 1 {
			for _, x := range []string{"0", "1", "8", "-", " ", "+", "_", "d", "\n", "\x00", "\xff"} {
				look(line[:i] + x + line[i:])
				if i < len(line) {
					look(line[:i] + x + line[i+1:])
				}
			}
			look(line[:i])
			look(line[i:])
			if i < len(line) {
				look(line[:i] + line[i+1:])
			}
		}
	}
	if read < 100 || refused < 500 {
		t.Errorf("only %d read, %d refused", read, refused)
	}
}
