package log

import (
	"slices"
	"testing"
)

// TestARowGrowsInNewMemory adds to a row of which others have pieces, as a box that was handed one has.
func TestARowGrowsInNewMemory(t *testing.T) {
	r := row[string]{items: make([]string, 2, 8)}
	given := r.items[:8]
	r.add("a")
	if given[2] != "" {
		t.Error("added in a given row's spare room:", given)
	}
	piece := r.items
	r.add("b")
	r.items[0] = "c"
	if piece[0] != "" || !slices.Equal(r.all(), []string{"c", "", "a", "b"}) {
		t.Error("a row grows where a piece of it is:", piece, r.all())
	}
}
