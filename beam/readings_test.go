package beam_test

import (
	"cmp"
	"math"
	"slices"
	"strings"
	"testing"

	"firetower/api"
	"firetower/beam"
)

func TestP1_5ReadingsExamples(t *testing.T) {
	for _, x := range []struct {
		received string
		faults   int
		want     []api.Sent
	}{
		{plainSignal("a"), 0, []api.Sent{{Word: "a"}}},
		{plainSignal("smoke"), 1, []api.Sent{{Word: "smoke"}}},
		{".-/-./-./.-//", 0, nil},
		{".-/-./-./.-//", 1, []api.Sent{{Word: "n", Faults: 1}}},
		{".-/-./-./.-//", 2, []api.Sent{{Word: "n", Faults: 1}, {Word: "a", Faults: 2}}},
		{".-/-./-/.-//", 2, []api.Sent{{Word: "a", Faults: 2}, {Word: "n", Faults: 2}}},
		{".-/-./-/.-//", 1, nil},
		{"-.../--/.-/-.../--//", 2, []api.Sent{{Word: "tk", Faults: 1}, {Word: "ka", Faults: 2}, {Word: "mr", Faults: 2}}},
		{"-.../..-./-./--/.//", 2, []api.Sent{{Word: "fn", Faults: 1}, {Word: "einn", Faults: 2}, {Word: "uu", Faults: 2}}},
		{"", 2, nil},
		{"...", 2, nil},
		{longest, 2, nil},
		{coded("+"), 2, nil}, // no letters are no word
		{coded("+++"), 0, nil},
		{coded("k" + strings.Repeat("e", 11) + "zk"), 0, nil}, // nor are eleven: 55 and 330 modulo 29
		{coded("j" + strings.Repeat("e", 10) + "un"), 0, []api.Sent{{Word: strings.Repeat("e", 10)}}},
	} {
		if l, e := beam.Readings(x.received, x.faults); e != api.OK || !slices.Equal(l, x.want) {
			t.Errorf("Readings(%q, %d) = %v, %d, not %v", x.received, x.faults, l, e, x.want)
		}
	}
}

// The words of at most three letters among the readings are held against all such words.
func TestP1_5ReadingsAreAll(t *testing.T) {
	signals := map[string]string{}
	for _, w := range allWords(3) {
		signals[w] = plainSignal(w)
	}
	r := chance(15)
	for i := range 24 {
		w := randomString(r, alphabet, 1+i%3)
		s := signals[w]
		received := plainFaulted(s, randomFaults(r, len(s), r.IntN(3)))
		var want []api.Sent
		for word, signal := range signals {
			if n := len(signal) - len(received); n < -2 || n > 2 {
				continue
			}
			if n, is, _ := beam.Fewest(signal, received); is && n <= 2 {
				want = append(want, api.Sent{Word: word, Faults: n})
			}
		}
		slices.SortFunc(want, func(a, b api.Sent) int {
			return cmp.Or(cmp.Compare(a.Faults, b.Faults), cmp.Compare(a.Word, b.Word))
		})
		for faults := range api.MaxFaults + 1 {
			l, e := beam.Readings(received, faults)
			checkReadings(t, received, faults, l)
			long := func(x api.Sent) bool { return len(x.Word) > 3 }
			many := func(x api.Sent) bool { return x.Faults > faults }
			short, few := slices.DeleteFunc(l, long), slices.DeleteFunc(slices.Clone(want), many)
			if e != api.OK || !slices.Equal(short, few) {
				t.Fatalf("Readings(%q, %d) has %v, %d, not %v", received, faults, short, e, few)
			}
		}
	}
}

// checkReadings checks each reading by itself, and their order.
func checkReadings(t *testing.T, received string, faults int, l []api.Sent) {
	t.Helper()
	for i, x := range l {
		if n, is, _ := beam.Fewest(plainSignal(x.Word), received); !is || n != x.Faults || n > faults {
			t.Fatalf("Readings(%q, %d) has %v; the fewest are %d, %v", received, faults, x, n, is)
		}
		if i > 0 && (l[i-1].Faults > x.Faults || l[i-1].Faults == x.Faults && l[i-1].Word >= x.Word) {
			t.Fatalf("Readings(%q, %d) has %v ahead of %v", received, faults, l[i-1], x)
		}
	}
}

func TestP1_5Sure(t *testing.T) {
	for _, x := range []struct {
		received string
		faults   int
		word     string
		e        api.Errno
	}{
		{plainSignal("smoke"), 0, "smoke", api.OK},
		{plainSignal("a"), 2, "a", api.OK},
		{".-/-./-./.-//", 0, "", api.ErrNone},
		{".-/-./-./.-//", 1, "n", api.OK},
		{".-/-./-./.-//", 2, "n", api.OK},
		{".-/-./-/.-//", 1, "", api.ErrNone},
		{".-/-./-/.-//", 2, "", api.ErrClash},
		{"-.../--/.-/-.../--//", 2, "tk", api.OK},
		{"-.-././--../../-.--/-..//", 1, "", api.ErrClash}, // ezi or ezu
		{"", 2, "", api.ErrNone},
		{longest, 2, "", api.ErrNone},
	} {
		if w, e := beam.Sure(x.received, x.faults); w != x.word || e != x.e {
			t.Errorf("Sure(%q, %d) = %q, %d, not %q, %d", x.received, x.faults, w, e, x.word, x.e)
		}
	}
}

func TestP1_5Errors(t *testing.T) {
	for _, x := range []struct {
		received string
		faults   int
		e        api.Errno
	}{
		{tooLong, 3, api.ErrLimit}, {longAndNo, 1, api.ErrLimit}, {badFlash, -1, api.ErrForm}, {badFlash, 2, api.ErrForm},
		{plainSignal("a"), -1, api.ErrArg}, {plainSignal("a"), 3, api.ErrArg}, {"", math.MaxInt, api.ErrArg}, {"", math.MinInt, api.ErrArg},
	} {
		if l, e := beam.Readings(x.received, x.faults); len(l) != 0 || e != x.e {
			t.Errorf("Readings(%q, %d) = %v, %d, not %d", x.received, x.faults, l, e, x.e)
		}
		if w, e := beam.Sure(x.received, x.faults); w != "" || e != x.e {
			t.Errorf("Sure(%q, %d) = %q, %d, not %d", x.received, x.faults, w, e, x.e)
		}
	}
}

func TestP1_12WhatWasSentIsRead(t *testing.T) {
	r := chance(112)
	for i := range 60 {
		w := randomWord(r)
		n := i % (api.MaxFaults + 1)
		received, e := beam.Faulted(mustSignal(w), randomFaults(r, len(mustSignal(w)), n))
		if e != api.OK {
			t.Fatal(e)
		}
		for faults := n; faults <= api.MaxFaults; faults++ {
			l, e := beam.Readings(received, faults)
			checkReadings(t, received, faults, l)
			if e != api.OK || !slices.ContainsFunc(l, func(x api.Sent) bool { return x.Word == w && x.Faults <= n }) {
				t.Errorf("%q with %d faults is %q; Readings with %d: %v, %d", w, n, received, faults, l, e)
			}
		}
	}
}

// All that a book's words can become is read as one word of the book, if none of them can be confused.
func TestP1_12OnlyOneOfABook(t *testing.T) {
	for _, x := range []struct {
		book   []string
		faults int
	}{
		{[]string{"a", "n", "u", "w", "ab", "e"}, 1},
		{[]string{"e", "s", "m", "b", "no"}, 2},
	} {
		if i, j, is, e := beam.Apart(x.book, x.faults); is || e != api.OK {
			t.Fatal(x.book, i, j, e)
		}
		r := chance(1122)
		for _, w := range x.book {
			for range 12 {
				received := plainFaulted(plainSignal(w), randomFaults(r, len(plainSignal(w)), x.faults))
				l, _ := beam.Readings(received, x.faults)
				var of []string
				for _, reading := range l {
					if slices.Contains(x.book, reading.Word) {
						of = append(of, reading.Word)
					}
				}
				if !slices.Equal(of, []string{w}) {
					t.Errorf("%q with %d faults is %q, which is read as %v of %v", w, x.faults, received, of, x.book)
				}
			}
		}
	}
}
