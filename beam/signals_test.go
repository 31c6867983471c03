package beam_test

import (
	"strings"
	"testing"

	"firetower/api"
	"firetower/beam"
)

func TestP1_1ValueAndCode(t *testing.T) {
	for i := range 256 {
		b := byte(i)
		if got, want := beam.Value(b), strings.IndexByte(values, b); got != want {
			t.Errorf("Value(%q) = %d, not %d", b, got, want)
		}
		want, is := table[b]
		if got, ok := beam.Code(b); got != want || ok != is {
			t.Errorf("Code(%q) = %q, %v", b, got, ok)
		}
	}
}

func TestP1_1Letter(t *testing.T) {
	back := map[string]byte{}
	for b, code := range table {
		back[code] = b
	}
	for _, code := range append(allStrings(".-/", 6), "x", ".x", " .-", ".- ", "a") {
		want, is := back[code]
		if got, ok := beam.Letter(code); got != want || ok != is {
			t.Errorf("Letter(%q) = %q, %v", code, got, ok)
		}
	}
}

func TestP1_1Word(t *testing.T) {
	for _, s := range []string{"a", "z", "smoke", "zzzzzzzzzz", alphabet[:10], alphabet[16:]} {
		if !beam.Word(s) {
			t.Errorf("%q is a word", s)
		}
	}
	for _, s := range []string{"", "abcdefghijk", strings.Repeat("a", 1000), "Smoke", "smokE", "sm oke", " ", "+", "a*", "#a", "`", "{", "a`", "{a", "a1", "a\x00", "\xc3\xa9", ".-"} {
		if beam.Word(s) {
			t.Errorf("%q is no word", s)
		}
	}
	for i := range 256 {
		for _, s := range []string{string([]byte{byte(i)}), string([]byte{'a', byte(i)}), string([]byte{byte(i), 'a'})} {
			if beam.Word(s) != (i >= 'a' && i <= 'z') {
				t.Errorf("Word(%q)", s)
			}
		}
	}
}

func TestP1_1Checks(t *testing.T) {
	for _, x := range []struct{ word, ahead, behind string }{
		{"cab", "c", "fk"},
		{"a", "a", "aa"},
		{"z", "a", "zz"},
		{"aaaaaaaaaa", "j", "jz"},
		{"zzz", "c", "tk"}, // 78 and 156 modulo 29
		{"cz", "b", "+z"},  // 29 and 55
		{"zac", "c", "ah"}, // 30 and 37
		{"zb", "b", "#a"},  // 28 and 30
		{"za", "b", "*#"},  // 27 and 28
	} {
		if ahead, behind, e := beam.Checks(x.word); ahead != x.ahead || behind != x.behind || e != api.OK {
			t.Errorf("Checks(%q) = %q, %q, %d", x.word, ahead, behind, e)
		}
	}
	for _, s := range []string{"", "A", "a+", "abcdefghijk"} {
		if ahead, behind, e := beam.Checks(s); ahead != "" || behind != "" || e != api.ErrForm {
			t.Errorf("Checks(%q) = %q, %q, %d", s, ahead, behind, e)
		}
	}
}

func TestP1_2Signal(t *testing.T) {
	if s, e := beam.Signal("a"); s != ".-/.-/.-/.-//" || e != api.OK {
		t.Error(s, e)
	}
	r := chance(12)
	for range 2000 {
		w := randomWord(r)
		if s, e := beam.Signal(w); s != plainSignal(w) || e != api.OK {
			t.Errorf("Signal(%q) = %q, %d", w, s, e)
		}
	}
	for _, s := range []string{"", "A", "no more", "a*", "abcdefghijk"} {
		if got, e := beam.Signal(s); got != "" || e != api.ErrForm {
			t.Errorf("Signal(%q) = %q, %d", s, got, e)
		}
	}
}

func TestP1_2Read(t *testing.T) {
	for _, x := range []struct {
		why, signal string
		e           api.Errno
	}{
		{"one byte more than may be", tooLong, api.ErrLimit},
		{"the limit comes ahead of the form", longAndNo, api.ErrLimit},
		{"as many as may be", longest, api.ErrForm},
		{"no flash", badFlash, api.ErrForm},
		{"a byte more behind a signal", plainSignal("a") + "\n", api.ErrForm},
		{"nothing", "", api.ErrForm},
		{"pauses alone", "//", api.ErrForm},
		{"three codes", coded("aaa"), api.ErrForm},
		{"the checks of no letters at all", coded("+++"), api.ErrForm},
		{"three codes and an empty one", ".-/.-//.-//", api.ErrForm},
		{"no pause at the end", ".-/.-/.-/.-/", api.ErrForm},
		{"one more pause", ".-/.-/.-/.-///", api.ErrForm},
		{"no pause behind the last code", ".-/.-/.-/.-", api.ErrForm},
		{"a pause ahead", "/.-/.-/.-/.-//", api.ErrForm},
		{"no code", ".-/.-.-/.-/.-//", api.ErrForm},
		{"a sign as the first letter", coded("a+++"), api.ErrForm},
		{"a sign as the last letter", coded("ba*aa"), api.ErrForm},
		{"eleven letters", coded("k" + strings.Repeat("a", 11) + "kh"), api.ErrForm},
		{"two signals", plainSignal("a") + plainSignal("a"), api.ErrForm},
		{"the check ahead is another", coded("baaa"), api.ErrCheck},
		{"the check ahead is a sign", coded("+aaa"), api.ErrCheck},
		{"the first check behind is another", coded("abab"), api.ErrCheck},
		{"the first check behind is a sign", coded("aa#a"), api.ErrCheck},
		{"the second check behind is another", coded("aaab"), api.ErrCheck},
		{"the second check behind is a sign", coded("aaa*"), api.ErrCheck},
		{"the letter is another", coded("abaa"), api.ErrCheck},
		{"letters in another order", coded("cabcfk"), api.ErrCheck},
		{"as many letters as may be", coded("j" + strings.Repeat("a", 10) + "jy"), api.ErrCheck},
	} {
		if got, e := beam.Read(x.signal); got != "" || e != x.e {
			t.Errorf("%s: Read(%q) = %q, %d, not %d", x.why, x.signal, got, e, x.e)
		}
	}
}

// What few faults make of signals are flashes that are nearly signals: Read has to tell them all apart.
func TestP1_2ReadNearSignals(t *testing.T) {
	for _, w := range []string{"a", "e", "no", "cab", "tee"} {
		for _, s := range sortedKeys(plainResults(plainSignal(w), 2)) {
			want, f := plainRead(s)
			if got, e := beam.Read(s); got != want || e != f {
				t.Errorf("Read(%q) = %q, %d, not %q, %d", s, got, e, want, f)
			}
		}
	}
}

func TestP1_9ReadOfSignal(t *testing.T) {
	r := chance(19)
	words := append(allWords(2), alphabet[:10], strings.Repeat("z", 10), strings.Repeat("e", 10))
	for range 2000 {
		words = append(words, randomWord(r))
	}
	for _, w := range words {
		if got, e := beam.Read(mustSignal(w)); got != w || e != api.OK {
			t.Errorf("Read(Signal(%q)) = %q, %d", w, got, e)
		}
	}
	taken := 0
	for _, text := range allStrings("aet+", 6) {
		s := coded(text)
		w, e := beam.Read(s)
		if e != api.OK {
			continue
		}
		taken++
		if back := mustSignal(w); back != s {
			t.Errorf("Read takes %q, but Signal(%q) is %q", s, w, back)
		}
	}
	if taken == 0 {
		t.Error("no signal among all these flashes")
	}
}

func TestP1_10OneFaultIsNoticed(t *testing.T) {
	r := chance(110)
	words := allWords(2)
	for range 500 {
		words = append(words, randomWord(r))
	}
	for _, w := range words {
		s := mustSignal(w)
		for _, l := range faultLists(len(s), 1)[1:] {
			received, e := beam.Faulted(s, l)
			if e != api.OK {
				t.Fatal(w, l, e)
			}
			got, e := beam.Read(received)
			if received == s && (got != w || e != api.OK) || received != s && e == api.OK {
				t.Errorf("the signal of %q with %v: Read(%q) = %q, %d", w, l, received, got, e)
			}
		}
	}
}
