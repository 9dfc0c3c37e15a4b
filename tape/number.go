package tape

import (
	"strconv"
	"strings"
)

// told is a word, and numbers behind it.
func told(word string, l ...int) string {
	var b strings.Builder
	b.WriteString(word)
	for _, n := range l {
		b.WriteByte(' ')
		b.WriteString(strconv.Itoa(n))
	}
	return b.String()
}

// numbers is what words tell, if each of them is a number.
func numbers(words ...string) ([]int, bool) {
	l := make([]int, len(words))
	for i, word := range words {
		l[i], _ = strconv.Atoi(word)
		// A number can be written in many ways, and what is none is read as one, too; but it is told in just one way.
		if strconv.Itoa(l[i]) != word {
			return nil, false
		}
	}
	return l, true
}
