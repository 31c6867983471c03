package season_test

import (
	"slices"
	"strings"
	"testing"

	"firetower/api"
	"firetower/season"
)

func TestP10_2Examples(t *testing.T) {
	for _, x := range []struct {
		e api.Entry
		s string
	}{
		{sight(7, 1, 20, 450), "17 s 7 1 20 450 1"},
		{back(3), "5 x 3"},
		{back(80), "6 x 80"},
		{blank(8, 2, 0, 3500, 20), "20 b 8 2 0 3500 20 1"},
		{mark(9, 1, 5, at(3, 4), 0), "18 m 9 1 5 3 4 0 1"},
		{sight(1, 0, 0, 0), "14 s 1 0 0 0 1"},
		{mark(10000, 10000, 1<<20, at(48, 48), 3599), "37 m 10000 10000 1048576 48 48 3599 1"},
	} {
		if s, e := season.Text(x.e); s != x.s || e != api.OK {
			t.Errorf("Text of %+v: %q %d", x.e, s, e)
		}
		if got, e := season.Read(x.s); got != x.e || e != api.OK {
			t.Errorf("Read of %q: %+v %d", x.s, got, e)
		}
	}
}

func TestP10_2Text(t *testing.T) {
	for _, x := range rightEntries() {
		if s, e := season.Text(x); s != plainText(x) || e != api.OK {
			t.Errorf("%+v: %q %d", x, s, e)
		}
	}
	for _, x := range wrongEntries() {
		if s, e := season.Text(x); s != "" || e != api.ErrForm {
			t.Errorf("%+v: %q %d", x, s, e)
		}
	}
}

func TestP10_2ReadNoLines(t *testing.T) {
	for _, s := range []string{
		"", " ", "5", "5 ", "5 x", "5 x ", "4 x", "6 x 3", "4 x 3", "05 x 3", "+5 x 3", " 5 x 3", "5 x 3 ", "7 x 3 3", "6 x 03", "6 x +3", "5  x 3", "6  x 3", "6 x  3", "5 x\t3",
		"5 x 0", "6 x 81", "6 x -1", "6 x 99", "5 y 3", "5 X 3", "4 3", "3 x", "x 3", "5 3 x", "6 xx 3", "5 x 3\n", "6 x 3\n", "17 s 7 1 20 450 a", "17 s 7 1 20 450 1 ",
		"18 s 7 1 20 450 1 ", "19 s 7 1 20 450 1 2", "15 s 7 1 20 450", "18 s 7 1 20 450 01", "17 b 7 1 20 450 1", "18 s 7 1 20 3600 1", "19 s 7 1 20 450 101", "17 s 0 1 20 450 1",
		"16 s 7 1 20 450 1", "18 s 7 1 20 450 -1", "20 s 7 -1 20 450 100", "22 s 10001 1 20 450 11", "17 s 7 1 20 450 \x00", "28 s 7 1 20 9223372036854775808 1", "35 s 7 1 20 99999999999999999999999 1",
	} {
		if x, e := season.Read(s); x != (api.Entry{}) || e != api.ErrForm {
			t.Errorf("%q: %+v %d", s, x, e)
		}
	}
	// Lines that tell of entries that are not formed are none.
	for _, x := range wrongEntries() {
		s := plainText(x)
		if y, is := plainRead(s); is {
			x = y
			continue
		}
		if x, e := season.Read(s); x != (api.Entry{}) || e != api.ErrForm {
			t.Errorf("%q: %+v %d", s, x, e)
		}
	}
}

// Lines in which something is another are read just as the plain version reads them.
func TestP10_2ReadMangledLines(t *testing.T) {
	r := random(2)
	lines := 0
	for range 60000 {
		s := plainText(oneOf(r, rightEntries()))
		for range 1 + r.IntN(3) {
			s = mangled(r, s)
		}
		want, is := plainRead(s)
		got, e := season.Read(s)
		if got != want || (e == api.OK) != is || !is && e != api.ErrForm {
			t.Fatalf("%q: %+v %d instead of %+v", s, got, e, want)
		}
		if is {
			lines++
		}
	}
	counted(t, "mangled lines that can be read", lines, 1000)
}

func TestP10_3Torn(t *testing.T) {
	abc := []string{"a", "bb", "ccc"}
	for _, x := range []struct {
		page, line, bytes int
		want              []string
		e                 api.Errno
	}{
		{0, 2, 0, []string{"a", "", ""}, api.OK},
		{0, 2, 1, []string{"a", "b", ""}, api.OK},
		{0, 2, 2, []string{"a", "bb", ""}, api.OK},
		{0, 3, 2, []string{"a", "bb", "cc"}, api.OK},
		{0, 3, 3, abc, api.OK},
		{0, 3, 1<<63 - 1, abc, api.OK},
		{0, 0, 5, []string{"", "", ""}, api.OK},
		{0, 1, 0, []string{"", "", ""}, api.OK},
		{0, 4, 0, nil, api.ErrArg},
		{0, -1, 0, nil, api.ErrArg},
		{0, 1<<63 - 1, 0, nil, api.ErrArg},
		{0, 1, -1, nil, api.ErrArg},
		{0, 0, -1 << 63, nil, api.ErrArg},
		{1, 0, 0, nil, api.ErrArg},
		{-1, 0, 0, nil, api.ErrArg},
		{1 << 61, 0, 0, nil, api.ErrArg},
		{1 << 60, 0, 0, nil, api.ErrArg},
		{-1 << 63, 0, 0, nil, api.ErrArg},
		{1<<63 - 1, 0, 0, nil, api.ErrArg},
	} {
		if got, e := season.Torn(abc, x.page, x.line, x.bytes); !same(got, x.want) || e != x.e {
			t.Errorf("%+v: %q %d", x, got, e)
		}
	}
	// Lines can be of any length.
	long := strings.Repeat("abcdefghij", 20)
	for _, n := range []int{0, 40, 41, 100, 199, 200, 201} {
		if got, e := season.Torn([]string{long}, 0, 1, n); !slices.Equal(got, []string{long[:min(n, 200)]}) || e != api.OK {
			t.Error(n, got, e)
		}
	}
	for _, none := range [][]string{nil, {}} {
		if l, e := season.Torn(none, 0, 0, 0); len(l) > 0 || e != api.ErrArg {
			t.Error(l, e)
		}
	}
}

// All tears of books with up to three pages.
func TestP10_3AllTears(t *testing.T) {
	for n := range 26 {
		var book []string
		for i := range n {
			book = append(book, strings.Repeat("abc", i%3)[:i%3*2])
		}
		for page := -2; page < 5; page++ {
			for line := -1; line < 10; line++ {
				for bytes := -1; bytes < 6; bytes++ {
					got, e := season.Torn(book, page, line, bytes)
					want, f := plainTorn(book, page, line, bytes)
					if !slices.Equal(got, want) || e != f {
						t.Fatalf("%q %d %d %d: %q %d instead of %q %d", book, page, line, bytes, got, e, want, f)
					}
				}
			}
		}
	}
}

func TestP10_14Lines(t *testing.T) {
	for _, x := range rightEntries() {
		s, e := season.Text(x)
		if e != api.OK {
			t.Fatal(x, e)
		}
		if y, e := season.Read(s); x != y || e != api.OK {
			t.Errorf("%q: %+v %d", s, y, e)
		}
		for i := range s {
			if y, e := season.Read(s[:i]); y != (api.Entry{}) || e != api.ErrForm {
				t.Errorf("%q: %+v %d", s[:i], y, e)
			}
		}
		for _, y := range rightEntries() {
			if other, _ := season.Text(y); x != y && s == other {
				t.Error(x, y, s)
			}
		}
	}
}

// A page that is torn changes no other page, and no line into another one that can be read.
func TestP10_14Tears(t *testing.T) {
	r := random(3)
	lost, kept := 0, 0
	for range 3000 {
		var book []string
		for range 1 + r.IntN(30) {
			s, _ := season.Text(oneOf(r, rightEntries()))
			book = append(book, s)
		}
		page, line, bytes := r.IntN(4), r.IntN(9), r.IntN(45)
		torn, e := season.Torn(book, page, line, bytes)
		if e != api.OK {
			continue
		}
		for i, s := range torn {
			before, _ := season.Read(book[i])
			after, e := season.Read(s)
			if s == book[i] {
				kept++
			} else {
				lost++
			}
			if i/8 != page && s != book[i] || e == api.OK && after != before || e != api.OK && s == book[i] {
				t.Fatalf("%q %q %d %d %d", book, torn, page, line, bytes)
			}
		}
	}
	counted(t, "lines that were torn", lost, 5000)
	counted(t, "lines that were kept", kept, 5000)
}
