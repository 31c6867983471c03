package beam_test

import (
	"math"
	"slices"
	"testing"

	"firetower/api"
	"firetower/beam"
)

// plainConfused returns the first flashes that the signals of both words can become.
func plainConfused(a, b string, faults int) (string, bool) {
	of := plainResults(plainSignal(b), faults)
	for _, s := range sortedKeys(plainResults(plainSignal(a), faults)) {
		if _, is := of[s]; is {
			return s, true
		}
	}
	return "", false
}

// Some pairs of words can be confused with one fault, some with two, also such of different lengths, most not at all.
var pairs = [][2]string{
	{"no", "no"}, {"e", "i"}, {"a", "n"}, {"a", "smoke"}, {"ezi", "ezu"}, {"ldd", "ldx"}, {"ab", "ewd"}, {"add", "zl"}, {"zmk", "zmn"}, {"h", "s"}, {"b", "a"}, {"qjxywvkpqq", "qjxywvkpqa"},
}

func TestP1_6Confused(t *testing.T) {
	found := 0
	for _, x := range pairs {
		for faults := range api.MaxFaults + 1 {
			want, is := plainConfused(x[0], x[1], faults)
			if s, ok, e := beam.Confused(x[0], x[1], faults); s != want || ok != is || e != api.OK {
				t.Errorf("Confused(%q, %q, %d) = %q, %v, %d, not %q, %v", x[0], x[1], faults, s, ok, e, want, is)
			}
			if is && x[0] != x[1] {
				found++
			}
		}
	}
	if found == 0 {
		t.Error("no pair can be confused")
	}
}

func TestP1_6ConfusedErrors(t *testing.T) {
	for _, x := range []struct {
		a, b   string
		faults int
		e      api.Errno
	}{
		{"", "a", 3, api.ErrForm}, {"a", "", 3, api.ErrForm}, {"A", "a", 1, api.ErrForm}, {"a", "b+", -1, api.ErrForm}, {"a", "abcdefghijk", 0, api.ErrForm},
		{"a", "a", 3, api.ErrArg}, {"a", "n", -1, api.ErrArg}, {"a", "n", math.MaxInt, api.ErrArg}, {"a", "n", math.MinInt, api.ErrArg},
	} {
		if s, ok, e := beam.Confused(x.a, x.b, x.faults); s != "" || ok || e != x.e {
			t.Errorf("Confused(%q, %q, %d) = %q, %v, %d, not %d", x.a, x.b, x.faults, s, ok, e, x.e)
		}
	}
}

func TestP1_6BookErrors(t *testing.T) {
	for _, x := range []struct {
		book   []string
		faults int
		e      api.Errno
	}{
		{[]string{"a", "a", "", "d", "e", "f", "g", "h", "i"}, 3, api.ErrLimit},
		{[]string{"a", "b", "c", "d", "e", "f", "g", "h", "i"}, 0, api.ErrLimit},
		{[]string{"a", "a", "A"}, 3, api.ErrForm},
		{[]string{""}, 0, api.ErrForm},
		{[]string{"b", "abcdefghijk"}, 1, api.ErrForm},
		{[]string{"a", "b", "a"}, 3, api.ErrTwice},
		{[]string{"b", "no", "no"}, 2, api.ErrTwice},
		{[]string{"a", "b"}, 3, api.ErrArg},
		{[]string{"a", "n"}, -1, api.ErrArg},
		{nil, 3, api.ErrArg},
		{nil, math.MinInt, api.ErrArg},
	} {
		if i, j, is, e := beam.Apart(x.book, x.faults); i != 0 || j != 0 || is || e != x.e {
			t.Errorf("Apart(%q, %d) = %d, %d, %v, %d, not %d", x.book, x.faults, i, j, is, e, x.e)
		}
		if l, e := beam.Largest(x.book, x.faults); len(l) != 0 || e != x.e {
			t.Errorf("Largest(%q, %d) = %v, %d, not %d", x.book, x.faults, l, e, x.e)
		}
	}
}

func TestP1_6ApartAndLargest(t *testing.T) {
	for _, x := range []struct {
		book   []string
		faults int
		i, j   int
		is     bool
		best   []int
	}{
		{nil, 2, 0, 0, false, nil},
		{[]string{"e"}, 2, 0, 0, false, []int{0}},
		{[]string{"e", "i"}, 1, 0, 0, false, []int{0, 1}},
		{[]string{"e", "i"}, 2, 0, 1, true, []int{0}},
		{[]string{"a", "smoke"}, 2, 0, 0, false, []int{0, 1}},
		{[]string{"e", "m", "o", "i"}, 2, 0, 3, true, []int{0, 1}},    // e and i, m and o
		{[]string{"i", "a", "s", "e"}, 2, 0, 2, true, []int{1, 2, 3}}, // the first word is in the way of two
		{[]string{"e", "i", "s", "h"}, 2, 0, 1, true, []int{0, 2}},    // each one and the next one
		{[]string{"i", "h", "e", "s"}, 2, 0, 2, true, []int{0, 1}},    // the same words in another order
		{[]string{"a", "b", "c", "e", "g", "h", "m", "j"}, 2, 0, 0, false, []int{0, 1, 2, 3, 4, 5, 6, 7}},
	} {
		if i, j, is, e := beam.Apart(x.book, x.faults); i != x.i || j != x.j || is != x.is || e != api.OK {
			t.Errorf("Apart(%q, %d) = %d, %d, %v, %d, not %d, %d, %v", x.book, x.faults, i, j, is, e, x.i, x.j, x.is)
		}
		if l, e := beam.Largest(x.book, x.faults); e != api.OK || !slices.Equal(l, x.best) {
			t.Errorf("Largest(%q, %d) = %v, %d, not %v", x.book, x.faults, l, e, x.best)
		}
	}
}

// plainBook returns what Apart and Largest have to, from which words can be confused.
func plainBook(book []string, confused func(a, b string) bool) (i, j int, is bool, best []int) {
	for k, a := range book {
		for m, b := range book {
			if k < m && !is && confused(a, b) {
				i, j, is = k, m, true
			}
		}
	}
	for set := range 1 << len(book) {
		var l []int
		for k := range book {
			if set&(1<<k) != 0 {
				l = append(l, k)
			}
		}
		right := true
		for _, k := range l {
			for _, m := range l {
				right = right && (k >= m || !confused(book[k], book[m]))
			}
		}
		if right && (len(l) > len(best) || len(l) == len(best) && slices.Compare(l, best) < 0) {
			best = l
		}
	}
	return i, j, is, best
}

func TestP1_6RandomBooks(t *testing.T) {
	var becomes [3]map[string]map[string]int
	for faults := range becomes {
		becomes[faults] = map[string]map[string]int{}
		for _, w := range append(allWords(1), "ldd", "ldn", "ldx", "lzd", "idr", "eln", "uia") {
			becomes[faults][w] = plainResults(plainSignal(w), faults)
		}
	}
	r := chance(16)
	for range 60 {
		faults := 1 + r.IntN(2)
		words := sortedKeys(becomes[faults])
		r.Shuffle(len(words), func(i, j int) { words[i], words[j] = words[j], words[i] })
		book := words[:r.IntN(api.MaxBook+1)]
		before := slices.Clone(book)
		i, j, is, best := plainBook(book, func(a, b string) bool {
			for s := range becomes[faults][a] {
				if _, ok := becomes[faults][b][s]; ok {
					return true
				}
			}
			return false
		})
		if k, m, ok, e := beam.Apart(book, faults); k != i || m != j || ok != is || e != api.OK {
			t.Errorf("Apart(%q, %d) = %d, %d, %v, %d, not %d, %d, %v", book, faults, k, m, ok, e, i, j, is)
		}
		if l, e := beam.Largest(book, faults); e != api.OK || !slices.Equal(l, best) {
			t.Errorf("Largest(%q, %d) = %v, %d, not %v", book, faults, l, e, best)
		}
		if !slices.Equal(book, before) {
			t.Errorf("the book %q is now %q", before, book)
		}
	}
}

func TestP1_13Confusion(t *testing.T) {
	for _, x := range pairs {
		was := false
		for faults := range api.MaxFaults + 1 {
			s, is, e := beam.Confused(x[0], x[1], faults)
			other, also, f := beam.Confused(x[1], x[0], faults)
			if s != other || is != also || e != api.OK || f != api.OK {
				t.Errorf("Confused(%q, %q, %d) depends on the order: %q, %v; %q, %v", x[0], x[1], faults, s, is, other, also)
			}
			if was && !is {
				t.Errorf("%q and %q cannot be confused any more with %d faults", x[0], x[1], faults)
			}
			was = is
			if !is {
				continue
			}
			for _, w := range x {
				if l, e := beam.Results(mustSignal(w), faults); e != api.OK || !slices.Contains(l, s) {
					t.Errorf("Confused(%q, %q, %d) = %q, which is not among the results of %q", x[0], x[1], faults, s, w)
				}
			}
		}
	}
}
