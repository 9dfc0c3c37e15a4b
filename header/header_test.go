package header_test

import (
	"math"
	"testing"

	"dustpan/header"
)

// last is the greatest address to which a link goes, as the document writes it.
const last = 1 << 20

// rooms are how many fields each class has room for, as the document's chapter of classes has it.
func rooms() []int {
	return []int{1, 3, 7, 15}
}

// said is all that a word says.
type said struct {
	kind, class, fields, next int
}

// ask is what all calls tell of a word; they have to agree, and to tell zeros of what it doesn't say.
func ask(t *testing.T, w uint64) said {
	t.Helper()
	c, fields, isObject := header.Parse(w)
	next, isLink := header.Next(w)
	got := said{header.Kind(w), c, fields, next}
	if isObject && isLink {
		t.Fatalf("%#x says two things", w)
	}
	if isObject != (got.kind == header.IsObject) || isLink != (got.kind == header.IsLink) {
		t.Fatalf("%#x: Kind %d, but Parse %v, Next %v", w, got.kind, isObject, isLink)
	}
	if !isObject && (c != 0 || fields != 0) {
		t.Fatalf("%#x: Parse: %d, %d beside a false", w, c, fields)
	}
	if !isLink && next != 0 {
		t.Fatalf("%#x: Next: %d beside a false", w, next)
	}
	return got
}

// all is every header, and what it says.
func all(t *testing.T) map[uint64]said {
	t.Helper()
	words := make(map[uint64]said, last+40)
	lay := func(w uint64, ok bool, says said) {
		if !ok || w == 0 {
			t.Fatalf("%v has no header: %#x, %v", says, w, ok)
		}
		if other, has := words[w]; has {
			t.Fatalf("%#x says %v, and %v", w, other, says)
		}
		words[w] = says
	}
	for k, room := range rooms() {
		for fields := range room + 1 {
			w, ok := header.Object(k, fields)
			lay(w, ok, said{kind: header.IsObject, class: k, fields: fields})
		}
	}
	for a := range last + 1 {
		w, ok := header.Link(a)
		lay(w, ok, said{kind: header.IsLink, next: a})
	}
	return words
}

func TestKindsAreNumbered(t *testing.T) {
	if header.Nothing != 0 || header.IsObject != 1 || header.IsLink != 2 {
		t.Error(header.Nothing, header.IsObject, header.IsLink)
	}
}

func TestExamples(t *testing.T) {
	w, ok := header.Object(1, 3)
	if c, fields, is := header.Parse(w); !ok || !is || c != 1 || fields != 3 {
		t.Error("Parse of Object(1, 3):", c, fields, is)
	}
	if header.Kind(0) != header.Nothing {
		t.Error("Kind(0):", header.Kind(0))
	}
}

// TestEveryHeaderSaysOneThing makes all headers there are: each is another word, and says what it was made of.
func TestEveryHeaderSaysOneThing(t *testing.T) {
	for w, want := range all(t) {
		if got := ask(t, w); got != want {
			t.Fatalf("%#x: %v; want %v", w, got, want)
		}
	}
}

func TestHeadersAreAlwaysTheSame(t *testing.T) {
	for range 2 {
		for k, room := range rooms() {
			a, _ := header.Object(k, room)
			b, _ := header.Object(k, room)
			if a != b {
				t.Error("Object", k, room, a, b)
			}
		}
		a, _ := header.Link(77)
		b, _ := header.Link(77)
		if a != b {
			t.Error("Link", a, b)
		}
	}
}

func TestNoSuchObject(t *testing.T) {
	refused := func(k, fields int) {
		if w, ok := header.Object(k, fields); ok || w != 0 {
			t.Errorf("Object(%d, %d): %#x, %v", k, fields, w, ok)
		}
	}
	for k, room := range rooms() {
		for _, fields := range []int{math.MinInt, -16, -1, room + 1, room + 2, 16, 17, 256, 1 << 32, math.MaxInt} {
			refused(k, fields)
		}
	}
	for _, k := range []int{math.MinInt, -4, -1, 4, 5, 1 << 58, 1 << 60, math.MaxInt} {
		for _, fields := range []int{math.MinInt, -1, 0, 1, 15, 16, math.MaxInt} {
			refused(k, fields)
		}
	}
}

func TestNoSuchLink(t *testing.T) {
	for _, a := range []int{math.MinInt, -last, -2, -1, last + 1, last + 2, 2 * last, 1 << 32, 1 << 62, math.MaxInt} {
		if w, ok := header.Link(a); ok || w != 0 {
			t.Errorf("Link(%d): %#x, %v", a, w, ok)
		}
	}
}

func TestALinkToNothingIsNotNothing(t *testing.T) {
	w, ok := header.Link(0)
	if a, is := header.Next(w); !ok || !is || a != 0 || w == 0 {
		t.Error("Link(0):", w, ok, a, is)
	}
	if a, is := header.Next(0); is || a != 0 {
		t.Error("Next(0):", a, is)
	}
	if c, fields, is := header.Parse(0); is || c != 0 || fields != 0 {
		t.Error("Parse(0):", c, fields, is)
	}
}

// TestAllOtherWordsSayNothing asks of words that are near to headers, and of some that aren't:
// however a header is laid, a word that none is says nothing.
func TestAllOtherWordsSayNothing(t *testing.T) {
	words := all(t)
	look := func(w uint64) {
		if got := ask(t, w); got != words[w] { // said of no header: the zero one, Nothing
			t.Fatalf("%#x: %v; want %v", w, got, words[w])
		}
	}
	for w, says := range words {
		if says.kind == header.IsLink && says.next&(says.next-1) != 0 && says.next < last-2 {
			continue // of the links, those to 0, to the powers of two, and the last ones
		}
		for i := range 64 {
			look(w ^ 1<<i)
			look(w + 1<<i)
			look(w - 1<<i)
			for j := range i {
				look(w ^ 1<<i ^ 1<<j)
			}
		}
		look(^w)
		look(-w)
		look(w<<32 | w>>32)
	}
	for w := range uint64(last + 100) {
		look(w)
		look(^w)
		look(w << 44)
	}
	x := uint64(1)
	for range 200000 {
		x = x*6364136223846793005 + 1442695040888963407
		look(x)
		look(x >> 32)
		look(x &^ (1<<32 - 1))
	}
}
