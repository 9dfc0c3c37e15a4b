package log_test

import (
	"math"
	"slices"
	"testing"

	"dustpan/api"
	"dustpan/log"
)

// made is a buffer of a room, with these addresses.
func made(t *testing.T, room int, l ...int) *log.Buffer {
	t.Helper()
	b, e := log.New(room)
	if e != api.OK || b == nil {
		t.Fatalf("New(%d): %v, %d", room, b, e)
	}
	adds(t, b, l...)
	return b
}

// adds adds some addresses, one by one.
func adds(t *testing.T, b *log.Buffer, l ...int) {
	t.Helper()
	for _, a := range l {
		if !b.Add(a) {
			t.Fatalf("Add(%d) is refused", a)
		}
	}
}

// refuses adds what a full buffer refuses.
func refuses(t *testing.T, b *log.Buffer, a int) {
	t.Helper()
	if b.Add(a) {
		t.Fatalf("Add(%d) isn't refused", a)
	}
}

// taken is a buffer, or a box.
type taken interface {
	Next() (int, bool)
	Len() int
}

// tells takes some addresses, one by one.
func tells(t *testing.T, from taken, l ...int) {
	t.Helper()
	for _, want := range l {
		was := from.Len()
		if a, ok := from.Next(); !ok || a != want {
			t.Fatalf("Next: %d, %v; want %d", a, ok, want)
		}
		if n := from.Len(); n != was-1 {
			t.Fatalf("%d ahead of Next, and then %d", was, n)
		}
	}
}

// tellsNone takes where there is none.
func tellsNone(t *testing.T, from taken) {
	t.Helper()
	if a, ok := from.Next(); ok || a != 0 || from.Len() != 0 {
		t.Fatalf("Next of none: %d, %v; Len: %d", a, ok, from.Len())
	}
}

// holds looks at all that a buffer of a room tells.
func holds(t *testing.T, b *log.Buffer, room int, want ...int) {
	t.Helper()
	if b.Len() != len(want) || !slices.Equal(b.All(), want) {
		t.Fatalf("%d: %v; want %v", b.Len(), b.All(), want)
	}
	if b.Full() != (len(want) == room) {
		t.Fatalf("Full: %v, with %d of %d", b.Full(), len(want), room)
	}
}

// hands hands a buffer over, or is refused.
func hands(t *testing.T, x *log.Box, b *log.Buffer, want bool) {
	t.Helper()
	if x.Hand(b) != want {
		t.Fatalf("Hand: %v", !want)
	}
}

// has looks at how many a box has.
func has(t *testing.T, x *log.Box, want int) {
	t.Helper()
	if x.Len() != want {
		t.Fatalf("a box has %d; want %d", x.Len(), want)
	}
}

func TestNewHasNone(t *testing.T) {
	for _, room := range []int{1, 2, 100, 255, 256} {
		b := made(t, room)
		holds(t, b, room)
		tellsNone(t, b)
		b.Clear()
		holds(t, b, room)
	}
}

func TestNewRefuses(t *testing.T) {
	for _, room := range []int{math.MinInt, -256, -1, 0, 257, 512, 4096, 1<<32 + 1, math.MaxInt} {
		if b, e := log.New(room); b != nil || e != api.ErrRange {
			t.Errorf("New(%d): %v, %d", room, b, e)
		}
	}
}

func TestTheExample(t *testing.T) {
	b, x := made(t, 2, 7, 8), log.NewBox()
	if !b.Full() {
		t.Error("Full: false")
	}
	hands(t, x, b, true)
	tells(t, x, 7)
}

func TestFullAtItsRoom(t *testing.T) {
	for _, room := range []int{1, 2, 3, 64, 255, 256} {
		b := made(t, room)
		var l []int
		for a := range room {
			holds(t, b, room, l...)
			adds(t, b, -a)
			l = append(l, -a)
		}
		holds(t, b, room, l...)
		refuses(t, b, 5)
		holds(t, b, room, l...)
		tells(t, b, l[0])
		holds(t, b, room, l[1:]...)
		adds(t, b, 77)
		holds(t, b, room, append(l[1:], 77)...)
		refuses(t, b, 78)
	}
}

func TestTheFirstOneIsNext(t *testing.T) {
	b := made(t, 4, 9, 1, 9)
	tells(t, b, 9)
	holds(t, b, 4, 1, 9)
	adds(t, b, 3, 2)
	holds(t, b, 4, 1, 9, 3, 2)
	tells(t, b, 1, 9, 3, 2)
	tellsNone(t, b)
	holds(t, b, 4)
	adds(t, b, 5)
	tells(t, b, 5)
	tellsNone(t, b)
}

func TestAnyAddresses(t *testing.T) {
	l := []int{0, -1, math.MinInt, math.MaxInt, 1 << 20, 1<<20 + 1, 0}
	b, x := made(t, 7, l...), log.NewBox()
	holds(t, b, 7, l...)
	hands(t, x, b, true)
	tells(t, x, l...)
	tellsNone(t, x)
}

func TestClear(t *testing.T) {
	b := made(t, 3, 1, 2, 3)
	b.Clear()
	holds(t, b, 3)
	tellsNone(t, b)
	adds(t, b, 4, 5, 6)
	refuses(t, b, 7)
	holds(t, b, 3, 4, 5, 6)
	tells(t, b, 4)
	b.Clear()
	b.Clear()
	holds(t, b, 3)
}

func TestNewBoxHasNone(t *testing.T) {
	x := log.NewBox()
	if x == nil {
		t.Fatal("NewBox: nil")
	}
	has(t, x, 0)
	tellsNone(t, x)
}

func TestHandGivesAllInTheirOrder(t *testing.T) {
	b, x := made(t, 4, 5, 6, 7, 8), log.NewBox()
	tells(t, b, 5)
	adds(t, b, 4)
	hands(t, x, b, true)
	has(t, x, 4)
	holds(t, b, 4)
	tellsNone(t, b)
	tells(t, x, 6, 7, 8, 4)
	tellsNone(t, x)
}

func TestHandToABoxThatHasSome(t *testing.T) {
	b, x := made(t, 2, 5, 6), log.NewBox()
	hands(t, x, b, true)
	adds(t, b, 7)
	for left := 2; left > 0; left-- {
		has(t, x, left)
		hands(t, x, b, false)
		holds(t, b, 2, 7)
		has(t, x, left)
		hands(t, x, made(t, 1), false) // nor what has none
		tells(t, x, 7-left)
	}
	hands(t, x, b, true)
	holds(t, b, 2)
	tells(t, x, 7)
	tellsNone(t, x)
}

func TestHandOfNone(t *testing.T) {
	b, x := made(t, 2), log.NewBox()
	hands(t, x, b, true)
	hands(t, x, b, true)
	has(t, x, 0)
	tellsNone(t, x)
	holds(t, b, 2)
	hands(t, x, nil, false)
	has(t, x, 0)
	adds(t, b, 9)
	hands(t, x, b, true)
	hands(t, x, nil, false)
	tells(t, x, 9)
}

func TestABoxHasRoomForABufferOfAnyRoom(t *testing.T) {
	x := log.NewBox()
	for _, room := range []int{256, 1, 255, 2} {
		b := made(t, room)
		var l []int
		for a := range room {
			adds(t, b, a+room)
			l = append(l, a+room)
		}
		hands(t, x, b, true)
		has(t, x, room)
		tells(t, x, l...)
		tellsNone(t, x)
	}
}

func TestWhatIsHandedOverStays(t *testing.T) {
	b, x, y := made(t, 3, 1, 2, 3), log.NewBox(), log.NewBox()
	tells(t, b, 1)
	hands(t, x, b, true)
	adds(t, b, 7, 8, 9)
	hands(t, y, b, true)
	adds(t, b, 4)
	has(t, x, 2)
	tells(t, x, 2)
	b.Clear()
	adds(t, b, 5, 6)
	tells(t, y, 7, 8)
	tells(t, x, 3)
	tells(t, y, 9)
	tellsNone(t, x)
	tellsNone(t, y)
	holds(t, b, 3, 5, 6)
}

func TestAllIsNewMemory(t *testing.T) {
	b := made(t, 5, 1, 2, 3, 4)
	tells(t, b, 1)
	l, m := b.All(), b.All()
	clear(l[:cap(l)])
	if !slices.Equal(m, []int{2, 3, 4}) {
		t.Error("two answers share memory:", m)
	}
	holds(t, b, 5, 2, 3, 4)
	_ = append(m[:1], 70, 71, 72)
	holds(t, b, 5, 2, 3, 4)
	x, was := log.NewBox(), b.All()
	hands(t, x, b, true)
	adds(t, b, 8, 9)
	if !slices.Equal(was, []int{2, 3, 4}) {
		t.Error("an answer has changed:", was)
	}
	clear(was[:cap(was)])
	tells(t, x, 2, 3, 4)
}

func TestBuffersAndBoxesShareNothing(t *testing.T) {
	b, o, x, y := made(t, 2, 1), made(t, 2), log.NewBox(), log.NewBox()
	holds(t, o, 2)
	adds(t, o, 2)
	hands(t, x, b, true)
	has(t, y, 0)
	holds(t, o, 2, 2)
	hands(t, y, o, true)
	tells(t, x, 1)
	tells(t, y, 2)
}

func TestNilBuffer(t *testing.T) {
	var b *log.Buffer
	for _, a := range []int{math.MinInt, -1, 0, 1, math.MaxInt} {
		refuses(t, b, a)
		holds(t, b, -1)
		tellsNone(t, b)
		b.Clear()
	}
}

func TestNilBox(t *testing.T) {
	var x *log.Box
	b := made(t, 2, 1, 2)
	hands(t, x, b, false)
	hands(t, x, nil, false)
	hands(t, x, made(t, 1), false)
	holds(t, b, 2, 1, 2)
	tellsNone(t, x)
}

// TestAgainstRows adds, takes, clears and hands over by a fixed rule, and holds a buffer and a box against rows of addresses.
func TestAgainstRows(t *testing.T) {
	for _, room := range []int{1, 2, 5, 40} {
		b, x := made(t, room), log.NewBox()
		var inBuffer, inBox []int
		r := uint64(room)
		for range 3000 {
			r = r*6364136223846793005 + 1442695040888963407
			n := int(r >> 33)
			switch what := n % 32; {
			case what == 0:
				b.Clear()
				inBuffer = nil
			case what < 5:
				inBuffer = againstNext(t, b, inBuffer)
			case what < 15:
				inBox = againstNext(t, x, inBox)
			case what < 18:
				hands(t, x, b, len(inBox) == 0)
				if len(inBox) == 0 {
					inBox, inBuffer = inBuffer, nil
				}
			case len(inBuffer) == room:
				refuses(t, b, n)
			default:
				adds(t, b, n)
				inBuffer = append(inBuffer, n)
			}
			holds(t, b, room, inBuffer...)
			has(t, x, len(inBox))
		}
		tells(t, x, inBox...)
		tellsNone(t, x)
	}
}

// againstNext takes of a buffer or a box, and of a row likewise.
func againstNext(t *testing.T, from taken, want []int) []int {
	t.Helper()
	if len(want) == 0 {
		tellsNone(t, from)
		return nil
	}
	tells(t, from, want[0])
	return want[1:]
}
