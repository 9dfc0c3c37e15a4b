package tape

import (
	"strconv"
	"strings"

	"dustpan/api"
	"dustpan/spell"
)

// kinds are the words of the kinds of events, by these; the one of 0 is no kind's.
var kinds = [...]string{
	api.Did:    "did",
	api.Start:  "start",
	api.Marked: "marked",
	api.Rested: "rested",
	api.Freed:  "freed",
}

// eventWords is how many words an event's line has, and kindPlace which one is its kind's.
const (
	eventWords = 6
	kindPlace  = 2
)

// Event is an event's line.
func Event(e api.Event) (string, api.Errno) {
	if e.Kind < api.Did || e.Kind > api.Freed {
		return "", api.ErrArg
	}
	ahead, behind := spell.Line(strconv.Itoa(e.Pick), e.Who), spell.Line(kinds[e.Kind], e.Op, int(e.Code), e.Value)
	return ahead + " " + behind, api.OK
}

// ParseEvent is the event of a line.
func ParseEvent(s string) (api.Event, api.Errno) {
	// Of too many words the last one has all that are left, so that it is no number.
	words := strings.SplitN(s, " ", eventWords)
	if len(words) != eventWords {
		return api.Event{}, api.ErrForm
	}
	kind, isKind := byName(words[kindPlace])
	ahead, areAhead := spell.Numbers(words[:kindPlace]...)
	behind, areBehind := spell.Numbers(words[kindPlace+1:]...)
	if !isKind || !areAhead || !areBehind {
		return api.Event{}, api.ErrForm
	}
	return api.Event{
		Pick:  ahead[0],
		Who:   ahead[1],
		Kind:  kind,
		Op:    behind[0],
		Code:  api.Errno(behind[1]),
		Value: behind[2],
	}, api.OK
}

// byName is the kind of a word.
func byName(word string) (int, bool) {
	for kind := api.Did; kind <= api.Freed; kind++ {
		if kinds[kind] == word {
			return kind, true
		}
	}
	return 0, false
}
