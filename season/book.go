package season

import (
	"slices"

	"firetower/api"
)

// Torn returns the lines of a book of which a page is torn.
func Torn(lines []string, page, line, bytes int) ([]string, api.Errno) {
	// The page comes first: the product of a greater one can be beyond an int.
	if !within(page, 0, (len(lines)-1)/api.MaxPageLine) || len(lines) == 0 {
		return nil, api.ErrArg
	}
	first := page * api.MaxPageLine
	behind := min(first+api.MaxPageLine, len(lines))
	if !within(line, 0, behind-first) || bytes < 0 {
		return nil, api.ErrArg
	}
	out := slices.Clone(lines)
	clear(out[first+line : behind])
	if line > 0 {
		last := &out[first+line-1]
		*last = (*last)[:min(bytes, len(*last))]
	}
	return out, api.OK
}

// post is what a tower has written, and what of it the office has.
type post struct {
	book   []string
	filed  []string // the office's copy of the book
	filing []int    // for each line of the copy, the minute from which it was known
}

// file makes a text the line of the copy with a number, known from a minute on, and reports whether it was another one before.
func (x *post) file(number int, text string, tick int) bool {
	for len(x.filed) < number {
		x.filed, x.filing = append(x.filed, ""), append(x.filing, 0)
	}
	if x.filed[number-1] == text {
		return false
	}
	x.filed[number-1], x.filing[number-1] = text, tick
	return true
}

// known returns the entries of the copy that can be read, with the ID of the tower.
func (x *post) known(tower int) []api.Entered {
	var out []api.Entered
	for i, text := range x.filed {
		if entry, e := Read(text); e == api.OK {
			out = append(out, api.Entered{Tower: tower, Line: i + 1, Tick: x.filing[i], Entry: entry})
		}
	}
	return out
}
