package cell

import (
	"iter"
	"math/bits"

	"firetower/api"
)

const (
	side = api.MaxSide + 1 // places in a row of the greatest map
	word = 64              // bits of a word
)

// set is some places of a map, a cell for example: a bit for each place that the greatest map has.
type set [(side*side + word - 1) / word]uint64

// bitOf returns the index of the word in which the bit of a place is, and this bit alone.
func bitOf(p api.Place) (int, uint64) {
	n := p.Y*side + p.X
	return n / word, 1 << (n % word)
}

func (s *set) add(p api.Place) {
	i, bit := bitOf(p)
	s[i] |= bit
}

func (s *set) has(p api.Place) bool {
	i, bit := bitOf(p)
	return s[i]&bit != 0
}

func (s set) empty() bool { return s == set{} }

// count returns how many places a set has.
func (s set) count() int {
	out := 0
	for _, w := range s {
		out += bits.OnesCount64(w)
	}
	return out
}

// meet returns the places that all of some sets have.
func meet(first set, more ...set) set {
	for _, s := range more {
		for i := range first {
			first[i] &= s[i]
		}
	}
	return first
}

// places goes through the places of a map, by Y and then by X.
func places(m api.Map) iter.Seq[api.Place] {
	return func(yield func(api.Place) bool) {
		for y := range m.High {
			for x := range m.Wide {
				if !yield(api.Place{X: x, Y: y}) {
					return
				}
			}
		}
	}
}

// whole returns all places of a map.
func whole(m api.Map) set {
	var out set
	for p := range places(m) {
		out.add(p)
	}
	return out
}

// listed returns the places of a map that a set has, by Y and then by X.
func listed(m api.Map, s set) []api.Place {
	var out []api.Place
	for p := range places(m) {
		if s.has(p) {
			out = append(out, p)
		}
	}
	return out
}
