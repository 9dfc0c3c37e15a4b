package tape_test

import (
	"math"
	"strconv"
	"strings"
	"testing"

	"dustpan/api"
	"dustpan/tape"
)

// kinds are the words of the kinds of events by their numbers, from 1 on, as the document writes them.
func kinds() []string {
	return []string{"", "did", "start", "marked", "rested", "freed"}
}

// isLine looks at an event and its line, each of which is the other one's.
func isLine(t *testing.T, x api.Event, line string) {
	t.Helper()
	if got, e := tape.Event(x); got != line || e != api.OK {
		t.Errorf("Event(%v): %q, %d; want %q", x, got, e, line)
	}
	if got, e := tape.ParseEvent(line); got != x || e != api.OK {
		t.Errorf("ParseEvent(%q): %v, %d; want %v", line, got, e, x)
	}
}

// noEvent looks at whether a text is no event's line.
func noEvent(t *testing.T, s string) {
	t.Helper()
	if x, e := tape.ParseEvent(s); x != (api.Event{}) || e != api.ErrForm {
		t.Errorf("ParseEvent(%q): %v, %d", s, x, e)
	}
}

func TestEvents(t *testing.T) {
	isLine(t, api.Event{Kind: api.Did}, "0 0 did 0 0 0")
	for kind, word := range kinds() {
		if kind > 0 {
			isLine(t, api.Event{Pick: 12, Who: 3, Kind: kind, Op: 45, Code: api.ErrMemory, Value: 678}, "12 3 "+word+" 45 10 678")
			isLine(t, api.Event{Pick: -1, Who: -20, Kind: kind, Op: -3, Code: -4, Value: -500}, "-1 -20 "+word+" -3 -4 -500")
		}
	}
}

// Each number is in its own place, and may be any.
func TestEventsOfAnyNumbers(t *testing.T) {
	for _, n := range []int{math.MinInt, math.MinInt + 1, -1 << 32, -10, -9, -1, 0, 1, 9, 10, 14, 15, 100, 1 << 32, math.MaxInt - 1, math.MaxInt} {
		word := strconv.Itoa(n)
		isLine(t, api.Event{Kind: api.Freed, Pick: n}, word+" 0 freed 0 0 0")
		isLine(t, api.Event{Kind: api.Freed, Who: n}, "0 "+word+" freed 0 0 0")
		isLine(t, api.Event{Kind: api.Freed, Op: n}, "0 0 freed "+word+" 0 0")
		isLine(t, api.Event{Kind: api.Freed, Code: api.Errno(n)}, "0 0 freed 0 "+word+" 0")
		isLine(t, api.Event{Kind: api.Freed, Value: n}, "0 0 freed 0 0 "+word)
		isLine(t, api.Event{Pick: n, Who: n, Kind: api.Marked, Op: n, Code: api.Errno(n), Value: n}, word+" "+word+" marked "+word+" "+word+" "+word)
	}
}

func TestEventsOfNoKind(t *testing.T) {
	for _, kind := range []int{math.MinInt, -5, -1, 0, 6, 7, 100, 1 << 32, 1<<32 + 1, math.MaxInt} {
		if s, e := tape.Event(api.Event{Pick: 1, Kind: kind, Value: 2}); s != "" || e != api.ErrArg {
			t.Errorf("Event of the kind %d: %q, %d", kind, s, e)
		}
	}
}

func TestNoEventsByTheirWords(t *testing.T) {
	for _, word := range []string{"", "Did", "DID", "di", "dids", "gone", "begin", "mark", "rest", "free", "0", "1", "5", "-", "did,", "d\u0131d", "did\x00", "\xff", "did start"} {
		noEvent(t, "1 2 "+word+" 3 4 5")
	}
	for _, word := range kinds()[1:] {
		for n := range 12 {
			if n != 5 { // so many numbers, of which two are ahead
				words := strings.Split("0"+strings.Repeat(" 0", n), " ")
				words[min(2, n)] = word
				noEvent(t, strings.Join(words, " "))
			}
		}
		for place := range 6 { // the word in another place
			if place != 2 {
				words := strings.Split("0 0 0 0 0 0", " ")
				words[place] = word
				noEvent(t, strings.Join(words, " "))
				words[2] = word
				noEvent(t, strings.Join(words, " "))
			}
		}
		line := "1 2 " + word + " 3 4 5"
		for _, s := range []string{" " + line, line + " ", line + "\n", "\n" + line, line + "\r", line + "\x00", line + line, line + "\n" + line, line + " 6", line + ",", strings.ReplaceAll(line, " ", "  "), strings.ReplaceAll(line, " ", "\t"), strings.ReplaceAll(line, " ", ",")} {
			noEvent(t, s)
		}
	}
	for _, s := range []string{"", " ", "     ", "did", "\n", "\xff\xfe"} {
		noEvent(t, s)
	}
}

// strange are words that are no numbers as they are told.
func strange() []string {
	return []string{
		"", "-", "+", "+1", "-0", "+0", "00", "01", "-01", "007", "--1", "1-", "1.", "1.0", "1e3", "0x1", "0b1", "0o7", "1_0", "x", "did", "\u0661", "\uff11", "1\x00", "1\r", "\t1",
		"9223372036854775808", "-9223372036854775809", "18446744073709551616", "99999999999999999999", "NaN", "Inf",
	}
}

func TestNoEventsByTheirNumbers(t *testing.T) {
	for _, n := range strange() {
		for place := range 6 {
			words := strings.Split("1 2 did 3 4 5", " ")
			words[place] = n
			if n != "did" || place != 2 {
				noEvent(t, strings.Join(words, " "))
			}
		}
	}
}

func TestNoEventsOfGreatLength(t *testing.T) {
	for _, s := range []string{strings.Repeat(" ", 1<<22), strings.Repeat("1 ", 1<<21), strings.Repeat("0", 1<<22) + " 0 did 0 0 0", "0 0 did 0 0 " + strings.Repeat("9", 1<<22), "0 0 " + strings.Repeat("did", 1<<20) + " 0 0 0", strings.Repeat("0 0 did 0 0 0", 1<<18)} {
		if x, e := tape.ParseEvent(s); x != (api.Event{}) || e != api.ErrForm {
			t.Errorf("ParseEvent of %q and so on: %v, %d", s[:12], x, e)
		}
	}
}
