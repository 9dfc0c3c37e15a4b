// Package spell is how lines are spelt: words with a blank between, of which some are numbers.
package spell

import (
	"strconv"
	"strings"
)

// Line is a word, and numbers behind it.
func Line(word string, l ...int) string {
	var b strings.Builder
	b.WriteString(word)
	for _, n := range l {
		b.WriteByte(' ')
		b.WriteString(strconv.Itoa(n))
	}
	return b.String()
}

// Number is what a word tells, and true, if it is a number.
func Number(word string) (int, bool) {
	n, _ := strconv.Atoi(word)
	// A number can be written in many ways, and what is none is read as one, too; but it is spelt in just one way.
	if strconv.Itoa(n) != word {
		return 0, false
	}
	return n, true
}

// Numbers is what words tell, and true, if each of them is a number.
func Numbers(words ...string) ([]int, bool) {
	l := make([]int, len(words))
	for i, word := range words {
		n, ok := Number(word)
		if !ok {
			return nil, false
		}
		l[i] = n
	}
	return l, true
}
