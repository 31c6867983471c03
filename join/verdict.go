package join

import (
	"slices"

	"firetower/api"
)

// judged returns a day that has been checked, and its best partitions, or the first error of both.
func judged(d api.Day) (survey, [][]set, api.Errno) {
	x, e := surveyed(d)
	if e != api.OK {
		return survey{}, nil, e
	}
	best, e := x.best()
	return x, best, e
}

// compared returns a day that has been checked, or its first error, or that of two sightings.
func compared(d api.Day, a, b int) (survey, api.Errno) {
	x, e := surveyed(d)
	if e != api.OK {
		return survey{}, e
	}
	if !x.has(a) || !x.has(b) {
		return survey{}, api.ErrNone
	}
	if a == b {
		return survey{}, api.ErrArg
	}
	return x, api.OK
}

// pair returns the set of two sightings.
func (x survey) pair(a, b int) set {
	out, _ := x.setOf([]int{min(a, b), max(a, b)})
	return out
}

// together reports whether two sightings stand in one set of a partition.
func together(p []set, pair set) bool { return slices.ContainsFunc(p, pair.part) }

// answer returns whether two sightings stand in one set in all, in some or in none of some partitions, and the first partition in which they do, and the first one in which they do not, if there are such ones.
func answer(best [][]set, pair set) (out api.Answer, joint, apart []set) {
	one := slices.IndexFunc(best, func(p []set) bool { return together(p, pair) })
	two := slices.IndexFunc(best, func(p []set) bool { return !together(p, pair) })
	switch {
	case two < 0:
		return api.Yes, best[one], nil
	case one < 0:
		return api.No, nil, best[two]
	default:
		return api.Open, best[one], best[two]
	}
}

// Same returns whether two sightings are of one smoke.
func Same(d api.Day, a, b int) (api.Verdict, api.Errno) {
	x, e := compared(d, a, b)
	if e != api.OK {
		return api.Verdict{}, e
	}
	return x.same(a, b)
}

// same returns whether two sightings are of one smoke; ErrClash if no partition is possible.
func (x survey) same(a, b int) (api.Verdict, api.Errno) {
	best, e := x.best()
	if e != api.OK {
		return api.Verdict{}, e
	}
	is, joint, apart := answer(best, x.pair(a, b))
	return api.Verdict{Answer: is, Together: x.told(joint), Apart: x.told(apart)}, api.OK
}

// CheckSame returns OK if a verdict is proved, by what can be of one smoke alone.
func CheckSame(d api.Day, j api.Joins, a, b int, v api.Verdict) api.Errno {
	x, e := compared(d, a, b)
	if e != api.OK {
		return e
	}
	if len(j.Fits) > most {
		return api.ErrLimit
	}
	best, e := bestBy(x.ids, j)
	if e != api.OK {
		return e
	}
	pair := x.pair(a, b)
	is, joint, apart := answer(best, pair)
	if v.Answer != is || !x.shown(v.Together, joint, best, pair) || !x.shown(v.Apart, apart, best, pair) {
		return api.ErrProof
	}
	return api.OK
}

// shown reports whether a partition of a verdict shows the same of two sightings as one of the best partitions; if there is no such one, it has to be empty.
func (x survey) shown(p [][]int, as []set, best [][]set, pair set) bool {
	if len(as) == 0 {
		return len(p) == 0
	}
	l, is := x.partitionOf(p)
	among := slices.ContainsFunc(best, func(b []set) bool { return slices.Equal(b, l) })
	return is && among && together(l, pair) == together(as, pair)
}

// Proved returns the sets of sightings that are a smoke in all partitions with the fewest smokes.
func Proved(d api.Day) ([][]int, api.Errno) {
	x, best, e := judged(d)
	if e != api.OK {
		return nil, e
	}
	everywhere := func(s set) bool {
		return !slices.ContainsFunc(best, func(p []set) bool { return !slices.Contains(p, s) })
	}
	var out [][]int
	for _, s := range best[0] {
		if everywhere(s) {
			out = append(out, x.listed(s))
		}
	}
	return out, api.OK
}

// Groups returns sightings that are surely of one smoke, together.
func Groups(d api.Day) ([][]int, api.Errno) {
	x, best, e := judged(d)
	if e != api.OK {
		return nil, e
	}
	var out []set
	for i := range x.ids {
		group := ^set(0)
		for _, p := range best {
			group &= holder(p, i)
		}
		if !slices.Contains(out, group) {
			out = append(out, group)
		}
	}
	return x.told(out), api.OK
}

// holder returns the set of a partition in which the sighting i stands.
func holder(p []set, i int) set {
	return p[slices.IndexFunc(p, func(s set) bool { return s&(1<<i) != 0 })]
}

// Stands returns where the smoke of a sighting can stand, over all partitions with the fewest smokes.
func Stands(d api.Day, id int) ([]api.Place, api.Errno) {
	x, e := surveyed(d)
	if e != api.OK {
		return nil, e
	}
	i := slices.Index(x.ids, id)
	if i < 0 {
		return nil, api.ErrNone
	}
	best, e := x.best()
	if e != api.OK {
		return nil, e
	}
	var holders []set
	for _, p := range best {
		holders = append(holders, holder(p, i))
	}
	slices.Sort(holders)
	var out []api.Place
	for _, s := range slices.Compact(holders) {
		out = append(out, x.cell(s)...)
	}
	slices.SortFunc(out, byRows)
	return slices.Compact(out), api.OK
}

// Rests returns the reports without each of which another verdict is found.
func Rests(d api.Day, a, b int) ([]int, api.Errno) {
	x, e := compared(d, a, b)
	if e != api.OK {
		return nil, e
	}
	v, e := x.same(a, b)
	if e != api.OK {
		return nil, e
	}
	var out []int
	for i, r := range d.Reports {
		if r.ID == a || r.ID == b {
			continue
		}
		others := x.of(slices.Concat(d.Reports[:i], d.Reports[i+1:]))
		if other, e := others.same(a, b); e != api.OK || other.Answer != v.Answer {
			out = append(out, r.ID)
		}
	}
	slices.Sort(out)
	return out, api.OK
}
