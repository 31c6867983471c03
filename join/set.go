package join

import (
	"iter"
	"math/bits"
	"slices"
)

// set is some sightings: the bit i stands for the one that has the index i when all are in the order of their IDs.
type set uint8

// part reports whether a set is a part of another one.
func (s set) part(of set) bool { return s&^of == 0 }

// beginning returns a set without its last sighting.
func (s set) beginning() set { return s &^ (1 << (bits.Len8(uint8(s)) - 1)) }

// sets goes through all sets of n sightings with at least one, in the order of their lists of IDs.
func sets(n int) iter.Seq[set] {
	return func(yield func(set) bool) {
		var grow func(s set, from int) bool
		grow = func(s set, from int) bool {
			for i := from; i < n; i++ {
				more := s | 1<<i
				if !yield(more) || !grow(more, i+1) {
					return false
				}
			}
			return true
		}
		grow(0, 0)
	}
}

// partitions goes, in order, through all partitions of n sightings whose sets are possible. What has a part that is not possible must not be possible, either.
func partitions(n int, possible func(s set) bool) iter.Seq[[]set] {
	return func(yield func([]set) bool) {
		// put yields what a partition of the first i sightings can become.
		var put func(p []set, i int) bool
		put = func(p []set, i int) bool {
			if i == n {
				return yield(p)
			}
			for k := range len(p) + 1 {
				if more := joined(p, k, i); possible(more[k]) && !put(more, i+1) {
					return false
				}
			}
			return true
		}
		put(nil, 0)
	}
}

// joined returns sets with the sighting i in the one with the index k, which is a new one if there are k sets.
func joined(p []set, k, i int) []set {
	out := slices.Clone(p)
	if k == len(out) {
		out = append(out, 0)
	}
	out[k] |= 1 << i
	return out
}

// fewest returns those of some partitions that have the fewest sets.
func fewest(all iter.Seq[[]set]) [][]set {
	var out [][]set
	for p := range all {
		if len(out) > 0 && len(p) < len(out[0]) {
			out = nil
		}
		if len(out) == 0 || len(p) == len(out[0]) {
			out = append(out, p)
		}
	}
	return out
}

// rising reports whether each element of a list comes ahead of the next one.
func rising[T any](l []T, compare func(a, b T) int) bool {
	for i := 1; i < len(l); i++ {
		if compare(l[i-1], l[i]) >= 0 {
			return false
		}
	}
	return true
}

// common returns what two rising lists both have.
func common[T any](a, b []T, compare func(a, b T) int) []T {
	var out []T
	for len(a) > 0 && len(b) > 0 {
		switch n := compare(a[0], b[0]); {
		case n < 0:
			a = a[1:]
		case n > 0:
			b = b[1:]
		default:
			out = append(out, a[0])
			a, b = a[1:], b[1:]
		}
	}
	return out
}
