package beam_test

import (
	"math/rand/v2"
	"slices"
	"strings"

	"firetower/api"
	"firetower/beam"
)

// What follows is written from the chapter alone, in the plainest way, so that the package can be held against it.

// values are the letters and signs by their values.
const values = "+abcdefghijklmnopqrstuvwxyz*#"

var table = map[byte]string{
	'a': ".-", 'b': "-...", 'c': "-.-.", 'd': "-..", 'e': ".", 'f': "..-.", 'g': "--.", 'h': "....", 'i': "..", 'j': ".---",
	'k': "-.-", 'l': ".-..", 'm': "--", 'n': "-.", 'o': "---", 'p': ".--.", 'q': "--.-", 'r': ".-.", 's': "...", 't': "-",
	'u': "..-", 'v': "...-", 'w': ".--", 'x': "-..-", 'y': "-.--", 'z': "--..", '+': ".-.-.", '*': "---.", '#': "----",
}

// coded returns the codes of a text, each followed by a pause, and one more pause.
func coded(text string) string {
	out := ""
	for _, b := range []byte(text) {
		out += table[b] + "/"
	}
	return out + "/"
}

// plainSignal returns the signal of a word.
func plainSignal(word string) string {
	sum, weighted := 0, 0
	for i, b := range []byte(word) {
		v := strings.IndexByte(values, b)
		sum += v
		weighted += (i + 1) * v
	}
	return coded(string(values[len(word)]) + word + string(values[sum%29]) + string(values[weighted%29]))
}

// plainRead returns what Read has to, for at most 100 flashes.
func plainRead(s string) (string, api.Errno) {
	parts := strings.Split(s, "/")
	n := len(parts)
	if n < 6 || parts[n-1] != "" || parts[n-2] != "" {
		return "", api.ErrForm
	}
	text := ""
	for _, code := range parts[:n-2] {
		found := false
		for b, c := range table {
			if c == code {
				text += string(b)
				found = true
			}
		}
		if !found {
			return "", api.ErrForm
		}
	}
	word := text[1 : len(text)-2]
	if len(word) > 10 || strings.ContainsAny(word, "+*#") {
		return "", api.ErrForm
	}
	if plainSignal(word) != s {
		return "", api.ErrCheck
	}
	return word, api.OK
}

// plainFaulted returns what is received if faults happen that can happen.
func plainFaulted(s string, l []api.Fault) string {
	out := ""
	for i := 0; i < len(s); i++ {
		one := s[i : i+1]
		for _, f := range l {
			switch {
			case f.At != i:
			case f.Kind == api.FaLost:
				one = ""
			case f.Kind == api.FaDoubled:
				one += one
			case f.Kind == api.FaSwapped:
				one = s[i+1:i+2] + one
			}
		}
		if slices.Contains(l, api.Fault{Kind: api.FaSwapped, At: i}) {
			i++
		}
		out += one
	}
	return out
}

// faultLists returns all lists of at most so many faults that can happen to n flashes, by the flash.
func faultLists(n, most int) [][]api.Fault {
	var out [][]api.Fault
	var add func(l []api.Fault, from int)
	add = func(l []api.Fault, from int) {
		out = append(out, l)
		if len(l) == most {
			return
		}
		for at := from; at < n; at++ {
			add(append(slices.Clone(l), api.Fault{Kind: api.FaLost, At: at}), at+1)
			add(append(slices.Clone(l), api.Fault{Kind: api.FaDoubled, At: at}), at+1)
			if at+1 < n {
				add(append(slices.Clone(l), api.Fault{Kind: api.FaSwapped, At: at}), at+2)
			}
		}
	}
	add(nil, 0)
	return out
}

// plainResults returns the fewest faults, up to `most`, of all that flashes can become.
func plainResults(s string, most int) map[string]int {
	out := map[string]int{}
	for _, l := range faultLists(len(s), most) {
		r := plainFaulted(s, l)
		if n, ok := out[r]; !ok || len(l) < n {
			out[r] = len(l)
		}
	}
	return out
}

// sortedKeys returns the keys of a map in lexicographic order.
func sortedKeys[V any](m map[string]V) []string {
	var out []string
	for k := range m {
		out = append(out, k)
	}
	slices.Sort(out)
	return out
}

// allStrings returns all strings of some bytes, from the empty one up to a length.
func allStrings(bytes string, length int) []string {
	out := []string{""}
	last := out
	for range length {
		var next []string
		for _, s := range last {
			for _, b := range []byte(bytes) {
				next = append(next, s+string(b))
			}
		}
		out = append(out, next...)
		last = next
	}
	return out
}

const alphabet = "abcdefghijklmnopqrstuvwxyz"

// allWords returns all words up to a length.
func allWords(length int) []string { return allStrings(alphabet, length)[1:] }

// chance returns the same numbers in every run.
func chance(seed uint64) *rand.Rand { return rand.New(rand.NewPCG(seed, 1)) }

func randomString(r *rand.Rand, bytes string, length int) string {
	out := make([]byte, length)
	for i := range out {
		out[i] = bytes[r.IntN(len(bytes))]
	}
	return string(out)
}

func randomWord(r *rand.Rand) string { return randomString(r, alphabet, 1+r.IntN(10)) }

// randomFaults returns n faults that can happen to so many flashes, in no order.
func randomFaults(r *rand.Rand, length, n int) []api.Fault {
	var l []api.Fault
	taken := make([]bool, length+1)
	taken[length] = true
	for len(l) < n {
		f := api.Fault{Kind: 1 + r.IntN(3), At: r.IntN(length)}
		if taken[f.At] || f.Kind == api.FaSwapped && taken[f.At+1] {
			continue
		}
		taken[f.At] = true
		if f.Kind == api.FaSwapped {
			taken[f.At+1] = true
		}
		l = append(l, f)
	}
	return l
}

// mustSignal returns the signal of a word that is one.
func mustSignal(word string) string {
	s, e := beam.Signal(word)
	if e != api.OK {
		panic("no word: " + word)
	}
	return s
}

// What is wrong with flashes: each kind, and both (of which the limit is told).
var (
	tooLong   = strings.Repeat(".", api.MaxFlash+1)
	badFlash  = ".-x/"
	longAndNo = strings.Repeat("x", api.MaxFlash+1)
	longest   = strings.Repeat(".-/.", api.MaxFlash/4)
)
