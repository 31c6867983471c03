package season

import (
	"strconv"

	"firetower/api"
)

// reader has the words of a line that are not read yet. It panics if it cannot go on.
type reader struct{ words []string }

// attempt returns what a function has read; ErrForm if it could not go on.
func attempt[T any](read func() T) (out T, e api.Errno) {
	defer func() {
		if recover() != nil {
			e = api.ErrForm
		}
	}()
	return read(), api.OK
}

// fail ends the reading.
func (r *reader) fail() { panic(api.ErrForm) }

func (r *reader) next() string {
	if len(r.words) == 0 {
		r.fail()
	}
	word := r.words[0]
	r.words = r.words[1:]
	return word
}

func (r *reader) number() int {
	n, err := strconv.Atoi(r.next())
	if err != nil {
		r.fail()
	}
	return n
}

// into reads numbers into fields.
func (r *reader) into(l []field) {
	for _, f := range l {
		*f.at = r.number()
	}
}

// rest reads all words that are left as numbers.
func (r *reader) rest() []int {
	var out []int
	for len(r.words) > 0 {
		out = append(out, r.number())
	}
	return out
}

// entry reads an entry, from its letter on.
func (r *reader) entry() api.Entry {
	out, is := emptyEntry(r.next())
	if !is {
		r.fail()
	}
	r.into(entryFields(&out))
	return out
}
