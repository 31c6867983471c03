package beam

import (
	"cmp"
	"iter"
	"slices"

	"firetower/api"
)

// Faulted returns flashes with some faults.
func Faulted(s string, l []api.Fault) (string, api.Errno) {
	if e := checkFlashes(s, api.MaxFlash); e != api.OK {
		return "", e
	}
	by, e := byFlash(len(s), l)
	if e != api.OK {
		return "", e
	}
	var out []byte
	for i := range len(s) {
		switch by[i].Kind {
		case api.FaLost:
		case api.FaDoubled:
			out = append(out, s[i], s[i])
		case api.FaSwapped:
			// The other one of the two: the next flash for the first, the one before for the second.
			out = append(out, s[2*by[i].At+1-i])
		default:
			out = append(out, s[i])
		}
	}
	return string(out), api.OK
}

// byFlash returns for each of n flashes the fault that it is in, if any, or the first error of the faults.
func byFlash(n int, l []api.Fault) ([api.MaxFlash]api.Fault, api.Errno) {
	var by [api.MaxFlash]api.Fault
	for _, f := range l {
		w := width(f.Kind)
		// At is not added to: the sum could be beyond what an int holds.
		if w == 0 || f.At < 0 || f.At > n-w {
			return by, api.ErrArg
		}
		for i := range w {
			if by[f.At+i].Kind != 0 {
				return by, api.ErrTwice
			}
			by[f.At+i] = f
		}
	}
	return by, api.OK
}

// width returns how many flashes are in a fault of a kind; 0 if there is no such kind.
func width(kind int) int {
	switch kind {
	case api.FaLost, api.FaDoubled:
		return 1
	case api.FaSwapped:
		return 2
	}
	return 0
}

// CheckFaults returns OK if faults make of some flashes others.
func CheckFaults(sent, received string, l []api.Fault) api.Errno {
	if e := checkBoth(sent, received); e != api.OK {
		return e
	}
	made, e := Faulted(sent, l)
	if e != api.OK {
		return e
	}
	if made != received {
		return api.ErrProof
	}
	return api.OK
}

// checkBoth returns the first error of two times flashes.
func checkBoth(sent, received string) api.Errno {
	return cmp.Or(checkFlashes(sent, api.MaxFlash), checkFlashes(received, api.MaxFlash))
}

// Fewest returns the fewest faults that make of some flashes others.
func Fewest(sent, received string) (int, bool, api.Errno) {
	if e := checkBoth(sent, received); e != api.OK {
		return 0, false, e
	}
	n, ok := filled(sent, received).fewest()
	return n, ok, api.OK
}

// Explain returns as few faults as possible that make of some flashes others.
func Explain(sent, received string) ([]api.Fault, api.Errno) {
	if e := checkBoth(sent, received); e != api.OK {
		return nil, e
	}
	s := filled(sent, received)
	if _, ok := s.fewest(); !ok {
		return nil, api.ErrNone
	}
	return s.explain(), api.OK
}

// filled returns the sheet of flashes that were sent, for any number of faults.
func filled(sent, received string) *sheet {
	// No flash is in two faults, so there cannot be more faults than flashes.
	s := newSheet(received, len(sent))
	for i := range len(sent) {
		s.send(sent[i])
	}
	return s
}

// Results returns all that can be received for some flashes with at most so many faults.
func Results(s string, faults int) ([]string, api.Errno) {
	if e := cmp.Or(checkFlashes(s, api.MaxFlash), checkFaults(faults)); e != api.OK {
		return nil, e
	}
	return results(s, faults), api.OK
}

// results returns what Results does, for arguments without an error.
func results(s string, faults int) []string {
	return slices.Compact(slices.Sorted(outcomes(s, faults)))
}

// outcomes yields all that flashes can become with at most so many faults, some of it more than once.
func outcomes(s string, faults int) iter.Seq[string] {
	return func(yield func(string) bool) {
		// The flashes from `from` on are in no fault yet, those before them have become `done`.
		var walk func(done string, from, left int) bool
		walk = func(done string, from, left int) bool {
			if !yield(done + s[from:]) {
				return false
			}
			if left == 0 {
				return true
			}
			for at := from; at < len(s); at++ {
				before := done + s[from:at]
				// Of equal flashes in a row the first one can be the one that is lost, or doubled: what is received is the same, and more flashes are left for the next fault.
				first := at == from || s[at] != s[at-1]
				if first && !walk(before, at+1, left-1) {
					return false
				}
				if first && !walk(before+s[at:at+1]+s[at:at+1], at+1, left-1) {
					return false
				}
				if at+1 < len(s) && s[at] != s[at+1] && !walk(before+s[at+1:at+2]+s[at:at+1], at+2, left-1) {
					return false
				}
			}
			return true
		}
		walk("", 0, faults)
	}
}
