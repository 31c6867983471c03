package beam

import (
	"cmp"
	"slices"

	"firetower/api"
)

// Readings returns all words that can have been sent, with at most so many faults.
func Readings(received string, faults int) ([]api.Sent, api.Errno) {
	if e := cmp.Or(checkFlashes(received, api.MaxFlash), checkFaults(faults)); e != api.OK {
		return nil, e
	}
	var l []api.Sent
	for word, n := range readings(received, faults) {
		l = append(l, api.Sent{Word: word, Faults: n})
	}
	slices.SortFunc(l, func(a, b api.Sent) int {
		return cmp.Or(cmp.Compare(a.Faults, b.Faults), cmp.Compare(a.Word, b.Word))
	})
	return l, api.OK
}

// readings returns the fewest faults of each word that can have been sent.
func readings(received string, faults int) map[string]int {
	found := map[string]int{}
	s := newSheet(received, faults)
	var grow func(word string, left int)
	grow = func(word string, left int) {
		if left == 0 {
			if n, ok := s.finish(word); ok {
				found[word] = n
			}
			return
		}
		length := len(s.sent)
		for v := Value('a'); v <= Value('z'); v++ {
			if s.spell(sign(v)) {
				grow(word+sign(v), left-1)
			}
			s.cut(length)
		}
	}
	for n := 1; n <= api.MaxLetters; n++ {
		if s.spell(sign(n)) {
			grow("", n)
		}
		s.cut(0)
	}
	return found
}

// spell adds letters or signs to what is sent, as long as what is received can begin so, and reports whether it can.
func (s *sheet) spell(text string) bool {
	for flash := range flashes(text) {
		if !s.send(flash) {
			return false
		}
	}
	return true
}

// finish adds what comes behind the letters of a word, and returns the fewest faults for the whole signal.
func (s *sheet) finish(word string) (int, bool) {
	_, behind, _ := Checks(word)
	if !s.spell(behind) || !s.send(api.Pause) {
		return 0, false
	}
	return s.fewest()
}

// Sure returns the only word that can have been sent with the fewest faults.
func Sure(received string, faults int) (string, api.Errno) {
	l, e := Readings(received, faults)
	if e != api.OK {
		return "", e
	}
	if len(l) == 0 {
		return "", api.ErrNone
	}
	if len(l) > 1 && l[1].Faults == l[0].Faults {
		return "", api.ErrClash
	}
	return l[0].Word, api.OK
}
