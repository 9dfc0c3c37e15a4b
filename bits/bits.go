// Package bits is layer 1: sets of numbers.
package bits

import (
	"iter"
	"math/bits"
	"slices"

	"dustpan/api"
)

const (
	most  = 1 << 21 // the greatest size
	width = 64      // numbers of a word
)

// Set is a set of numbers.
type Set struct {
	size  int
	words []uint64 // bits that stand for no number are never set: Count and Same rely on it
}

// New is a set that has none.
func New(size int) (*Set, api.Errno) {
	if size < 0 || size > most {
		return nil, api.ErrRange
	}
	return &Set{size: size, words: make([]uint64, (size+width-1)/width)}, api.OK
}

// Size is its size.
func (s *Set) Size() int {
	if s == nil {
		return 0
	}
	return s.size
}

// Has tells whether a number is in it.
func (s *Set) Has(n int) bool {
	return s.may(n) && s.words[n/width]&bit(n) != 0
}

// Put lays a number into it, or takes it out.
func (s *Set) Put(n int, in bool) bool {
	if !s.may(n) || s.Has(n) == in {
		return false
	}
	s.words[n/width] ^= bit(n)
	return true
}

// Count is how many it has.
func (s *Set) Count() int {
	if s == nil {
		return 0
	}
	count := 0
	for _, w := range from(s.words, 0) {
		count += bits.OnesCount64(w)
	}
	return count
}

// Next is the least one from a number on.
func (s *Set) Next(n int) (int, bool) {
	n = max(n, 0)
	if !s.may(n) {
		return 0, false
	}
	below := bit(n) - 1 // of the word that n itself is in, what is less than n
	at, found := 0, false
search:
	for first, w := range from(s.words, n/width) {
		switch rest := w &^ below; rest {
		case 0:
			below = 0
			continue search
		default:
			at, found = first+bits.TrailingZeros64(rest), true
			break search
		}
	}
	return at, found
}

// All is what it has, rising.
func (s *Set) All() iter.Seq[int] {
	return func(yield func(int) bool) {
		if s == nil {
			return
		}
		// Whoever ranges may put numbers meanwhile, so the words are copied as the ranging begins.
		for first, w := range from(slices.Clone(s.words), 0) {
			for ; w != 0; w &= w - 1 {
				if !yield(first + bits.TrailingZeros64(w)) {
					return
				}
			}
		}
	}
}

// Fill lays all into it, or takes all out.
func (s *Set) Fill(in bool) {
	if s == nil {
		return
	}
	w := uint64(0)
	if in {
		w = ^w
	}
	for i := range s.words {
		s.words[i] = w
	}
	if s.size%width != 0 {
		s.words[len(s.words)-1] &= bit(s.size) - 1
	}
}

// Copy is one that is the same.
func (s *Set) Copy() *Set {
	if s == nil {
		return nil
	}
	return &Set{size: s.size, words: slices.Clone(s.words)}
}

// Same tells whether two sets are the same.
func Same(a, b *Set) bool {
	if a == nil || b == nil {
		return a == nil && b == nil
	}
	return a.size == b.size && slices.Equal(a.words, b.words)
}

// may tells whether a number can be in it.
func (s *Set) may(n int) bool {
	return n >= 0 && n < s.Size()
}

// bit is a number's bit in its word.
func bit(n int) uint64 {
	return uint64(1) << (n % width)
}

// from is each word from a place on, with the number that its first bit stands for.
func from(words []uint64, place int) iter.Seq2[int, uint64] {
	return func(yield func(int, uint64) bool) {
		for i := place; i < len(words); i++ {
			if !yield(i*width, words[i]) {
				return
			}
		}
	}
}
