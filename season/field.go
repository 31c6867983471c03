package season

import (
	"math"
	"strconv"
)

// field is a number that stands in a line, and from where to where it can be.
type field struct {
	at          *int
	least, most int
}

// free returns fields whose numbers no line bounds: other layers say what they can be.
func free(l ...*int) []field {
	var out []field
	for _, at := range l {
		out = append(out, field{at, math.MinInt, math.MaxInt})
	}
	return out
}

// takeOut sets numbers to zero, so that it shows whether something else is left, and reports whether they were what they can be.
func takeOut(l []field) bool {
	for _, f := range l {
		if !within(*f.at, f.least, f.most) {
			return false
		}
		*f.at = 0
	}
	return true
}

// numbers returns the numbers of fields.
func numbers(l []field) []int {
	var out []int
	for _, f := range l {
		out = append(out, *f.at)
	}
	return out
}

// line puts a line together: a word and numbers.
func line(word string, numbers ...int) string {
	out := []byte(word)
	for _, n := range numbers {
		out = append(out, ' ')
		out = strconv.AppendInt(out, int64(n), 10)
	}
	return string(out)
}
