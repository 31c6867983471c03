package beam_test

import (
	"math"
	"slices"
	"strings"
	"testing"

	"firetower/api"
	"firetower/beam"
)

func TestP1_7Time(t *testing.T) {
	for s, want := range map[string]int{
		"": 0, ".": 1, "-": 3, "/": 4, ".-/": 8, plainSignal("a"): 36, "---...///": 24,
		strings.Repeat("/", api.MaxStream): 4 * api.MaxStream, longest + longest: 2 * 25 * 9,
	} {
		if n, e := beam.Time(s); n != want || e != api.OK {
			t.Errorf("Time(%q) = %d, %d, not %d", s, n, e, want)
		}
	}
}

func TestP1_7Split(t *testing.T) {
	for _, x := range []struct {
		stream string
		pieces []string
		rest   string
	}{
		{"", nil, ""},
		{".", nil, "."},
		{"/", nil, "/"},
		{"//", []string{"//"}, ""},
		{"///", []string{"//"}, "/"},
		{"////", []string{"//", "//"}, ""},
		{"/////", []string{"//", "//"}, "/"},
		{"./-//.", []string{"./-//"}, "."},
		{".///-//", []string{".//", "/-//"}, ""},
		{"./././-/", nil, "./././-/"},
		{plainSignal("no") + plainSignal("a") + "./", []string{plainSignal("no"), plainSignal("a")}, "./"},
	} {
		if l, rest, e := beam.Split(x.stream); !slices.Equal(l, x.pieces) || rest != x.rest || e != api.OK {
			t.Errorf("Split(%q) = %q, %q, %d, not %q, %q", x.stream, l, rest, e, x.pieces, x.rest)
		}
	}
	if l, rest, e := beam.Split(strings.Repeat("/", api.MaxStream)); len(l) != api.MaxStream/2 || rest != "" || e != api.OK {
		t.Error(len(l), rest, e)
	}
}

func TestP1_7Errors(t *testing.T) {
	for s, want := range map[string]api.Errno{
		strings.Repeat(".", api.MaxStream+1): api.ErrLimit,
		strings.Repeat("x", api.MaxStream+1): api.ErrLimit,
		strings.Repeat("x", api.MaxStream):   api.ErrForm,
		".//x":                               api.ErrForm,
		" .":                                 api.ErrForm,
		".\n":                                api.ErrForm,
	} {
		if n, e := beam.Time(s); n != 0 || e != want {
			t.Errorf("Time(%q) = %d, %d, not %d", s, n, e, want)
		}
		if l, rest, e := beam.Split(s); len(l) != 0 || rest != "" || e != want {
			t.Errorf("Split(%q) = %q, %q, %d, not %d", s, l, rest, e, want)
		}
	}
}

func TestP1_8Pack(t *testing.T) {
	for _, x := range []struct {
		t    api.Telegram
		word string
	}{
		{api.Telegram{Kind: api.TeMessage, Number: 27, Text: "no"}, "mbbno"},
		{api.Telegram{Kind: api.TeMessage}, "maa"},
		{api.Telegram{Kind: api.TeMessage, Number: 1, Text: "a"}, "maba"},
		{api.Telegram{Kind: api.TeMessage, Number: 26, Text: "zzzzzzz"}, "mbazzzzzzz"},
		{api.Telegram{Kind: api.TeMessage, Number: api.MaxNumber, Text: "mr"}, "mzzmr"},
		{api.Telegram{Kind: api.TeReceipt}, "raa"},
		{api.Telegram{Kind: api.TeReceipt, Number: 25}, "raz"},
		{api.Telegram{Kind: api.TeReceipt, Number: api.MaxNumber}, "rzz"},
	} {
		if w, e := beam.Pack(x.t); w != x.word || e != api.OK {
			t.Errorf("Pack(%v) = %q, %d, not %q", x.t, w, e, x.word)
		}
		if got, e := beam.Unpack(x.word); got != x.t || e != api.OK {
			t.Errorf("Unpack(%q) = %v, %d, not %v", x.word, got, e, x.t)
		}
	}
	for _, x := range []api.Telegram{
		{},
		{Number: 3, Text: "no"},
		{Kind: 3},
		{Kind: -1},
		{Kind: api.TeMessage, Number: -1},
		{Kind: api.TeMessage, Number: api.MaxNumber + 1},
		{Kind: api.TeMessage, Number: math.MaxInt},
		{Kind: api.TeMessage, Number: math.MinInt},
		{Kind: api.TeMessage, Text: "abcdefgh"},
		{Kind: api.TeMessage, Text: "No"},
		{Kind: api.TeMessage, Text: "n o"},
		{Kind: api.TeMessage, Text: "no+"},
		{Kind: api.TeReceipt, Number: -1},
		{Kind: api.TeReceipt, Number: api.MaxNumber + 1},
		{Kind: api.TeReceipt, Text: "a"},
		{Kind: api.TeReceipt, Text: "A"},
	} {
		if w, e := beam.Pack(x); w != "" || e != api.ErrArg {
			t.Errorf("Pack(%v) = %q, %d, not %d", x, w, e, api.ErrArg)
		}
	}
}

func TestP1_8UnpackErrors(t *testing.T) {
	for _, w := range []string{
		"", "m", "r", "mb", "raza", "razabcdefg", "xaa", "aaa", "laa", "saa", "Maa", "mAa", "maA", "m1a", "ma+", "+aa", "maano!", "maa no", "mbbabcdefgh", "mbb\x00",
	} {
		if x, e := beam.Unpack(w); x != (api.Telegram{}) || e != api.ErrForm {
			t.Errorf("Unpack(%q) = %v, %d, not %d", w, x, e, api.ErrForm)
		}
	}
}

func TestP1_9UnpackOfPack(t *testing.T) {
	r := chance(191)
	seen := map[string]bool{}
	for n := range api.MaxNumber + 1 {
		for _, x := range []api.Telegram{
			{Kind: api.TeMessage, Number: n, Text: randomString(r, alphabet, n%(api.MaxTelling+1))},
			{Kind: api.TeReceipt, Number: n},
		} {
			w, e := beam.Pack(x)
			if e != api.OK || !beam.Word(w) || seen[w] {
				t.Errorf("Pack(%v) = %q, %d", x, w, e)
			}
			seen[w] = true
			if back, e := beam.Unpack(w); back != x || e != api.OK {
				t.Errorf("Unpack(%q) = %v, %d, not %v", w, back, e, x)
			}
		}
	}
	for _, w := range append(allWords(3), "mabcdefghi", "rabc", "zzzzzzzzzz") {
		x, e := beam.Unpack(w)
		if (e == api.OK) != (w[0] == 'm' && len(w) >= 3 || w[0] == 'r' && len(w) == 3) {
			t.Errorf("Unpack(%q) = %v, %d", w, x, e)
		}
		if e != api.OK {
			continue
		}
		if back, e := beam.Pack(x); back != w || e != api.OK {
			t.Errorf("Pack(Unpack(%q)) = %q, %d", w, back, e)
		}
	}
}

func TestP1_14Streams(t *testing.T) {
	r := chance(114)
	for range 500 {
		s := randomString(r, ".-//", r.IntN(200))
		l, rest, e := beam.Split(s)
		if e != api.OK || strings.Join(l, "")+rest != s {
			t.Errorf("Split(%q) = %q, %q, %d", s, l, rest, e)
		}
		for _, piece := range l {
			if strings.Index(piece, "//") != len(piece)-2 {
				t.Errorf("Split(%q) has the piece %q", s, piece)
			}
		}
		if strings.Contains(rest, "//") {
			t.Errorf("Split(%q) leaves %q", s, rest)
		}
		at := r.IntN(len(s) + 1)
		a, _ := beam.Time(s[:at])
		b, _ := beam.Time(s[at:])
		if n, e := beam.Time(s); n != a+b || e != api.OK {
			t.Errorf("Time(%q) = %d, %d, not %d + %d", s, n, e, a, b)
		}
	}
	for range 100 {
		var signals []string
		for range r.IntN(50) {
			signals = append(signals, mustSignal(randomWord(r)))
		}
		if l, rest, e := beam.Split(strings.Join(signals, "")); !slices.Equal(l, signals) || rest != "" || e != api.OK {
			t.Errorf("Split of the signals %q = %q, %q, %d", signals, l, rest, e)
		}
	}
}
