package tape_test

import (
	"strings"
	"testing"

	"dustpan/api"
	"dustpan/tape"
)

// full is a line of as many picks as one has.
const full = "pick 0 1 2 3 4 0 1 2 3 4 0 1 2 3 4 0 1 2 3 4\n"

// refuses looks at the error of a text, and the number of its line.
func refuses(t *testing.T, text string, at int, want api.Errno) {
	t.Helper()
	if s, n, e := tape.Read(text); !zero(s) || n != at || e != want {
		t.Errorf("Read(%.200q): %v, %d, %d; want %d, %d", text, s, n, e, at, want)
	}
}

func TestNoTextAtAll(t *testing.T) {
	refuses(t, "", 0, api.ErrForm)
	for _, text := range []string{"\n", " ", "\n\n", "x", "\x00", "\xff\n", "\r\n", "\n" + ahead} {
		refuses(t, text, 0, api.ErrForm)
	}
}

// The first line is a right config, and no other one is.
func TestNoConfigs(t *testing.T) {
	for _, n := range strange() {
		for place := range 8 {
			words := strings.Split(strings.TrimSuffix(ahead, "\n"), " ")
			words[place] = n
			refuses(t, strings.Join(words, " ")+"\n", 0, api.ErrForm)
		}
	}
	for place, n := range []string{"0", "4097", "15", "257", "0", "9", "0", "65", "-1", "65", "0", "257", "0", "4097"} {
		words := strings.Split(strings.TrimSuffix(ahead, "\n"), " ")
		words[1+place/2] = n
		refuses(t, strings.Join(words, " ")+"\n", 0, api.ErrForm)
		refuses(t, strings.Join(words, " ")+"\nmut 0 safe\n", 0, api.ErrForm)
	}
	for n := range 12 {
		if n != 7 {
			refuses(t, "config"+strings.Repeat(" 16", n)+"\n", 0, api.ErrForm)
			refuses(t, "config"+strings.Repeat(" 1", n)+"\n", 0, api.ErrForm)
		}
	}
	line := strings.TrimSuffix(ahead, "\n")
	for _, s := range []string{" " + line, line + " ", line + "\r", line + " 1", strings.ToUpper(line), strings.ReplaceAll(line, " ", "  "), strings.ReplaceAll(line, " ", "\t"), line[len("config "):], "config" + line, "config " + line, "mut 0 safe", "pick 0", "safe"} {
		refuses(t, s+"\n", 0, api.ErrForm)
		refuses(t, s+"\n"+ahead, 0, api.ErrForm)
	}
	refuses(t, ahead+ahead, 1, api.ErrForm)
	refuses(t, ahead+"mut 0 safe\n"+ahead, 2, api.ErrForm)
	refuses(t, ahead+full+ahead, 2, api.ErrForm)
}

func TestNoMuts(t *testing.T) {
	for _, n := range append(strange(), "-1", "3", "4", "8", "9223372036854775807", "-9223372036854775808") {
		refuses(t, ahead+"mut "+n+" safe\n", 1, api.ErrForm)
		refuses(t, ahead+"mut 0 safe\nmut "+n+" drop 1\n", 2, api.ErrForm)
	}
	for _, n := range strange() {
		refuses(t, ahead+"mut 1 load 0 "+n+" 0\n", 1, api.ErrForm)
	}
	for _, line := range []string{"mut", "mut ", "mut 0", "mut 0 ", "mut 0  safe", "mut  0 safe", " mut 0 safe", "mut 0 safe ", "mut 0 safe\r", "mut 0 safe 0", "mut 0 drop", "mut 0 free 1", "mut 0 0", "mut safe", "mut safe 0", "mut 0 mut 0 safe", "Mut 0 safe", "muts 0 safe", "mut0 safe", "mut,0 safe", "mut\t0 safe", "mut 0\tsafe", "safe", "0 safe", "", " "} {
		refuses(t, ahead+line+"\n", 1, api.ErrForm)
		refuses(t, ahead+"mut 0 safe\n"+line+"\n"+full, 2, api.ErrForm)
	}
}

// The mutators' numbers don't fall, but may be left out.
func TestMutsDontFall(t *testing.T) {
	for first := range 3 {
		for second := range 3 {
			for third := range 3 {
				text := ahead
				for _, id := range []int{first, second, third} {
					text += "mut " + string(rune('0'+id)) + " safe\n"
				}
				switch {
				case second < first:
					refuses(t, text, 2, api.ErrForm)
				case third < second:
					refuses(t, text, 3, api.ErrForm)
				default:
					s := bare()
					for _, id := range []int{first, second, third} {
						s.Programs[id] = append(s.Programs[id], api.Op{Kind: api.Safe})
					}
					tells(t, s, text)
				}
			}
		}
	}
}

func TestNoPicks(t *testing.T) {
	for _, n := range strange() {
		refuses(t, ahead+"pick "+n+"\n", 1, api.ErrForm)
		refuses(t, ahead+"pick "+n+" 0\n", 1, api.ErrForm)
		refuses(t, ahead+full+"pick 0 "+n+"\n", 2, api.ErrForm)
		refuses(t, ahead+strings.Replace(full, "3", n, 1), 1, api.ErrForm)
		refuses(t, ahead+strings.TrimSuffix(full, "4\n")+n+"\n", 1, api.ErrForm)
	}
	for _, line := range []string{"pick", "pick ", " pick 0", "pick  0", "pick 0 ", "pick 0  1", "pick 0\r", "pick 0,1", "pick\t0", "pick0", "picks 0", "Pick 0", "pick pick 0", "0", "pick 0 pick 1"} {
		refuses(t, ahead+line+"\n", 1, api.ErrForm)
		refuses(t, ahead+"mut 0 safe\n"+line+"\n", 2, api.ErrForm)
		refuses(t, ahead+full+line+"\n", 2, api.ErrForm)
	}
}

// Each line of picks but the last one has 20; what comes behind one that has fewer is wrong, and so is one that has more.
func TestPicksOfEachLine(t *testing.T) {
	for n := 1; n < 45; n++ {
		line := "pick" + strings.Repeat(" 2", n) + "\n"
		for before := range 3 {
			text := ahead + strings.Repeat(full, before) + line
			switch {
			case n > 20:
				refuses(t, text, 1+before, api.ErrForm)
				refuses(t, text+line, 1+before, api.ErrForm)
			case n < 20:
				tellsAll(t, text)
				for _, behind := range []string{"pick 0\n", full, line, "pick\n", "mut 2 safe\n", "\n", "x"} {
					refuses(t, text+behind, 2+before, api.ErrForm)
				}
			default:
				tellsAll(t, text+full)
				tellsAll(t, text+"pick 0\n")
			}
		}
	}
}

// tellsAll looks at whether a text is read, and written just so.
func tellsAll(t *testing.T, text string) {
	t.Helper()
	s, n, e := tape.Read(text)
	if n != 0 || e != api.OK {
		t.Fatalf("Read(%q): %d, %d", text, n, e)
	}
	tells(t, s, text)
}

// Behind picks there are no operations any more.
func TestNoMutsBehindPicks(t *testing.T) {
	for _, picks := range []string{"pick 0\n", full, full + full, full + "pick 1\n"} {
		text := ahead + "mut 0 safe\n" + picks
		tellsAll(t, text)
		refuses(t, text+"mut 0 safe\n", strings.Count(text, "\n"), api.ErrForm)
		refuses(t, text+"mut 2 safe\n"+full, strings.Count(text, "\n"), api.ErrForm)
	}
}

// Each line is ended by a line feed: what is cut off is told with its line's number, whether or not that were a line.
func TestNoLineFeed(t *testing.T) {
	text := ahead + "mut 0 alloc 1 10\nmut 2 safe\n" + full + "pick 10 0\n"
	tellsAll(t, text)
	for i := range len(text) {
		if i > 0 && text[i-1] == '\n' {
			tellsAll(t, text[:i])
		} else {
			refuses(t, text[:i], strings.Count(text[:i], "\n"), api.ErrForm)
		}
	}
	for _, x := range []string{" ", "\x00", "pick 1", "\r", "0"} {
		refuses(t, text+x, 5, api.ErrForm)
	}
	refuses(t, text+"\n", 5, api.ErrForm)
}

// A text has so many lines; one more is told, whatever it is, but what is wrong ahead of it is told first.
func TestReadMaxLines(t *testing.T) {
	for _, line := range []string{"mut 1 safe\n", full} {
		text := ahead + strings.Repeat(line, 399)
		tellsAll(t, text)
		for _, behind := range []string{line, "pick 0\n", "pick 0", "x", "\n", " ", "\x00", strings.Repeat(line, 1000)} {
			refuses(t, text+behind, 400, api.ErrLong)
		}
		refuses(t, strings.TrimSuffix(text, "\n"), 399, api.ErrForm)
		refuses(t, strings.TrimSuffix(text, "\n")+" \nx", 399, api.ErrForm)
		for _, at := range []int{1, 2, 200, 398, 399} {
			refuses(t, ahead+strings.Repeat(line, at-1)+"\n"+strings.Repeat(line, 399), at, api.ErrForm)
		}
		refuses(t, strings.Repeat(line, 500), 0, api.ErrForm)
	}
	refuses(t, strings.Repeat("\n", 1<<20), 0, api.ErrForm)
	refuses(t, ahead+strings.Repeat("\n", 1<<20), 1, api.ErrForm)
	refuses(t, ahead+strings.Repeat("pick 0\n", 1<<20), 2, api.ErrForm)
	refuses(t, ahead+strings.Repeat(full, 1<<15), 400, api.ErrLong)
}

// Long lines are looked at, and refused.
func TestLongLines(t *testing.T) {
	for _, line := range []string{"pick" + strings.Repeat(" 0", 1<<20), "pick " + strings.Repeat("0", 1<<20), "pick " + strings.Repeat("1", 1<<20), "pick" + strings.Repeat(" ", 1<<20), "mut 0 drop " + strings.Repeat("9", 1<<20), "mut " + strings.Repeat("0", 1<<20), strings.Repeat("mut", 1<<20), strings.Repeat(" ", 1<<20)} {
		refuses(t, ahead+line+"\n", 1, api.ErrForm)
		refuses(t, ahead+line, 1, api.ErrForm)
		refuses(t, line+"\n", 0, api.ErrForm)
	}
	refuses(t, "config"+strings.Repeat(" 1", 1<<20)+"\n", 0, api.ErrForm)
}
