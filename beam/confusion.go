package beam

import (
	"cmp"
	"iter"
	"math/bits"
	"slices"

	"firetower/api"
)

// Confused returns flashes that can be received for either of two words, with at most so many faults each.
func Confused(a, b string, faults int) (string, bool, api.Errno) {
	if !Word(a) || !Word(b) {
		return "", false, api.ErrForm
	}
	if e := checkFaults(faults); e != api.OK {
		return "", false, e
	}
	s, ok := firstShared(received(a, faults), received(b, faults))
	return s, ok, api.OK
}

// received returns all that can be received for a word, in lexicographic order.
func received(word string, faults int) []string {
	signal, _ := Signal(word)
	return results(signal, faults)
}

// firstShared returns the first string of two lists in lexicographic order that is in both.
func firstShared(a, b []string) (string, bool) {
	for len(a) > 0 && len(b) > 0 {
		switch cmp.Compare(a[0], b[0]) {
		case 0:
			return a[0], true
		case -1:
			a = a[1:]
		default:
			b = b[1:]
		}
	}
	return "", false
}

// checkBook returns the first error of a book.
func checkBook(book []string) api.Errno {
	if len(book) > api.MaxBook {
		return api.ErrLimit
	}
	for _, word := range book {
		if !Word(word) {
			return api.ErrForm
		}
	}
	for i, word := range book {
		if slices.Contains(book[:i], word) {
			return api.ErrTwice
		}
	}
	return api.OK
}

// confusable tells which words of a book can be confused: bit j of the element i is set if i is less than j, and the words i and j can be.
func confusable(book []string, faults int) [api.MaxBook]uint {
	var lists [api.MaxBook][]string
	var with [api.MaxBook]uint
	for j, word := range book {
		lists[j] = received(word, faults)
		for i := range j {
			if _, is := firstShared(lists[i], lists[j]); is {
				with[i] |= 1 << j
			}
		}
	}
	return with
}

// Apart returns the first two words of a book that can be confused.
func Apart(book []string, faults int) (int, int, bool, api.Errno) {
	if e := cmp.Or(checkBook(book), checkFaults(faults)); e != api.OK {
		return 0, 0, false, e
	}
	for i, set := range confusable(book, faults) {
		if set != 0 {
			return i, bits.TrailingZeros(set), true, api.OK
		}
	}
	return 0, 0, false, api.OK
}

// Largest returns the indices of as many words of a book as possible, no two of which can be confused.
func Largest(book []string, faults int) ([]int, api.Errno) {
	if e := cmp.Or(checkBook(book), checkFaults(faults)); e != api.OK {
		return nil, e
	}
	with := confusable(book, faults)
	var chosen []int
choice:
	for size := len(book); size > 0; size-- {
		for l := range choices(len(book), size) {
			if separate(l, with) {
				chosen = l
				break choice
			}
		}
	}
	return chosen, api.OK
}

// choices yields all choices of so many of the indices below n, in lexicographic order.
func choices(n, size int) iter.Seq[[]int] {
	return func(yield func([]int) bool) {
		var extend func(l []int) bool
		extend = func(l []int) bool {
			if len(l) == size {
				return yield(l)
			}
			next := 0
			if len(l) > 0 {
				next = l[len(l)-1] + 1
			}
			for i := next; i < n; i++ {
				if !extend(append(slices.Clone(l), i)) {
					return false
				}
			}
			return true
		}
		extend(nil)
	}
}

// separate reports whether no two of the words with some indices can be confused.
func separate(l []int, with [api.MaxBook]uint) bool {
	var set uint
	for _, i := range l {
		set |= 1 << i
	}
	for _, i := range l {
		if with[i]&set != 0 {
			return false
		}
	}
	return true
}
