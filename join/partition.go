package join

import (
	"cmp"
	"iter"
	"slices"

	"firetower/api"
)

// partitions goes, in order, through all possible partitions.
func (x survey) partitions() iter.Seq[[]set] {
	cells := x.cells()
	return partitions(len(x.ids), func(s set) bool { return len(cells[s]) > 0 })
}

// best returns the best partitions, in order; ErrClash if no partition is possible.
func (x survey) best() ([][]set, api.Errno) { return unlessNone(fewest(x.partitions())) }

// unlessNone returns some partitions; ErrClash if there are none.
func unlessNone(l [][]set) ([][]set, api.Errno) {
	if len(l) == 0 {
		return nil, api.ErrClash
	}
	return l, api.OK
}

// Count returns how many partitions there are, by the number of smokes.
func Count(d api.Day) ([]int, api.Errno) {
	x, e := surveyed(d)
	if e != api.OK {
		return nil, e
	}
	out := make([]int, len(x.ids)+1)
	for p := range x.partitions() {
		out[len(p)]++
	}
	return out, api.OK
}

// Fewest returns the fewest smokes.
func Fewest(d api.Day) (int, api.Errno) {
	_, best, e := judged(d)
	if e != api.OK {
		return 0, e
	}
	return len(best[0]), api.OK
}

// Partitions returns all partitions into so many smokes.
func Partitions(d api.Day, smokes int) ([][][]int, api.Errno) {
	x, e := surveyed(d)
	if e != api.OK {
		return nil, e
	}
	if !within(smokes, 0, api.MaxSightings) {
		return nil, api.ErrArg
	}
	var out [][][]int
	for p := range x.partitions() {
		if len(p) == smokes {
			out = append(out, x.told(p))
		}
	}
	return out, api.OK
}

// CheckPartition returns OK if some sets are a partition.
func CheckPartition(d api.Day, p [][]int) api.Errno {
	x, e := surveyed(d)
	if e != api.OK {
		return e
	}
	l, is := x.partitionOf(p)
	if !is {
		return api.ErrProof
	}
	for _, s := range l {
		if !x.possible(s) {
			return api.ErrProof
		}
	}
	return api.OK
}

// partitionOf returns the sets of a partition, whether they are possible or not, and reports whether it is one.
func (x survey) partitionOf(p [][]int) ([]set, bool) {
	// As sets of a partition differ in their first IDs, they can be compared as lists.
	if !rising(p, slices.Compare[[]int]) {
		return nil, false
	}
	var out []set
	var all set
	for _, ids := range p {
		s, e := x.setOf(ids)
		if e != api.OK || s&all != 0 {
			return nil, false
		}
		out, all = append(out, s), all|s
	}
	return out, all == 1<<len(x.ids)-1
}

// Least returns the fewest smokes, by what can be of one smoke alone.
func Least(ids []int, j api.Joins) (int, api.Errno) {
	if len(ids) > api.MaxSightings || len(j.Fits) > most {
		return 0, api.ErrLimit
	}
	if !rising(ids, cmp.Compare[int]) {
		return 0, api.ErrArg
	}
	best, e := bestBy(ids, j)
	if e != api.OK {
		return 0, e
	}
	return len(best[0]), api.OK
}

// bestBy returns the partitions of some IDs into the fewest sets that fit by a table; ErrClash if there are none.
func bestBy(ids []int, j api.Joins) ([][]set, api.Errno) {
	var fits []set
	for _, f := range j.Fits {
		var s set
		for i, id := range ids {
			if slices.Contains(f.IDs, id) {
				s |= 1 << i
			}
		}
		fits = append(fits, s)
	}
	return unlessNone(fewest(partitions(len(ids), func(s set) bool { return slices.ContainsFunc(fits, s.part) })))
}
