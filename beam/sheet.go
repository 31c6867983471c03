package beam

import (
	"slices"

	"firetower/api"
)

// never stands in a sheet where no faults will do: more than there are faults, and still so when one is added.
const never = 2 * api.MaxFlash

// sheet tells, for the first i flashes of what is sent and the first j of what is received, with how few faults the ones become the others. What is sent can grow and be cut again, so that words with the same beginning share the rows for it.
type sheet struct {
	received string
	most     int // faults beyond which the numbers do not matter
	sent     []byte
	least    [api.MaxFlash + 1][api.MaxFlash + 1]int16
}

// part is some flashes that become some others, by one fault or by none: its kind, and how many flashes there are of both.
type part struct{ kind, sent, received int }

const asItIs = 0 // the kind of a part without a fault

var parts = [4]part{{asItIs, 1, 1}, {api.FaLost, 1, 0}, {api.FaDoubled, 1, 2}, {api.FaSwapped, 2, 2}}

// newSheet returns the sheet of something received, with nothing sent.
func newSheet(received string, most int) *sheet {
	s := &sheet{received: received, most: most}
	for i := range s.least {
		for j := range s.least[i] {
			s.least[i][j] = never
		}
	}
	s.least[0][0] = 0
	return s
}

// send adds a flash to what is sent, and reports whether what is received can begin with what this becomes.
func (s *sheet) send(flash byte) bool {
	s.sent = append(s.sent, flash)
	i := len(s.sent)
	possible := false
	// A fault makes what is received longer or shorter by at most one flash.
	for j := max(0, i-s.most); j <= min(len(s.received), i+s.most); j++ {
		least := int16(never)
		for _, p := range parts {
			least = min(least, s.ending(p, i, j))
		}
		s.least[i][j] = least
		possible = possible || int(least) <= s.most
	}
	return possible
}

// cut takes back all but the first flashes of what is sent.
func (s *sheet) cut(length int) { s.sent = s.sent[:length] }

// ending returns the fewest faults for the first i flashes sent, and the first j received, if they end with a part.
func (s *sheet) ending(p part, i, j int) int16 {
	if i < p.sent || j < p.received {
		return never
	}
	from, to := i-p.sent, j-p.received
	before := s.least[from][to]
	a, b := s.sent[from:i], s.received[to:j]
	switch {
	case p.kind == asItIs && a[0] == b[0]:
		return before
	case p.kind == api.FaLost,
		p.kind == api.FaDoubled && a[0] == b[0] && a[0] == b[1],
		p.kind == api.FaSwapped && a[0] == b[1] && a[1] == b[0]:
		return before + 1
	}
	return never
}

// fewest returns with how few faults all that is sent becomes all that is received.
func (s *sheet) fewest() (int, bool) {
	n := int(s.least[len(s.sent)][len(s.received)])
	if n > s.most {
		return 0, false
	}
	return n, true
}

// explain returns so few faults, by the flash; there must be some that will do.
func (s *sheet) explain() []api.Fault {
	var l []api.Fault
	i, j := len(s.sent), len(s.received)
	for i > 0 {
		p := s.last(i, j)
		i, j = i-p.sent, j-p.received
		if p.kind != asItIs {
			l = append(l, api.Fault{Kind: p.kind, At: i})
		}
	}
	slices.Reverse(l)
	return l
}

// last returns a part with which the first i flashes sent, and the first j received, end if the faults are as few as possible.
func (s *sheet) last(i, j int) part {
	best := parts[0]
	for _, p := range parts {
		if s.ending(p, i, j) < s.ending(best, i, j) {
			best = p
		}
	}
	return best
}
