package circle

import (
	"iter"
	"slices"

	"firetower/api"
)

// clash reports whether two things contradict each other; no zero contradicts one that allows none.
func (d dial) clash(a, b thing) bool {
	far := d.far(a.Tick, b.Tick)
	return !a.none && !b.none && (a.zeros.Lo-b.zeros.Hi > far || b.zeros.Lo-a.zeros.Hi > far)
}

// clashes yields the numbers of the things that contradict each other, or themselves, in order.
func (d dial) clashes() iter.Seq[[2]int] {
	return func(yield func([2]int) bool) {
		for i, a := range d.things {
			if a.none && !yield([2]int{a.ID, a.ID}) {
				return
			}
			for _, b := range d.things[i+1:] {
				if d.clash(a, b) && !yield([2]int{a.ID, b.ID}) {
					return
				}
			}
		}
	}
}

// contradicted reports whether something contradicts something.
func (d dial) contradicted() bool {
	for range d.clashes() {
		return true
	}
	return false
}

// Clashes returns all pairs of checks that contradict each other.
func Clashes(c api.Circles) ([][2]int, api.Errno) {
	if e := Check(c); e != api.OK {
		return nil, e
	}
	var out [][2]int
	for _, x := range c.Circles {
		d, _ := dialOf(c, x.ID)
		for pair := range d.clashes() {
			out = append(out, pair)
		}
	}
	return out, api.OK
}

// Suspects returns the checks without each of which nothing contradicts itself.
func Suspects(c api.Circles) ([]int, api.Errno) {
	pairs, e := Clashes(c)
	if len(pairs) == 0 {
		return nil, e
	}
	var out []int
	for _, x := range c.Checks {
		// Without a check just the pairs are gone in which it stands.
		outside := func(pair [2]int) bool { return pair[0] != x.ID && pair[1] != x.ID }
		if !slices.ContainsFunc(pairs, outside) {
			out = append(out, x.ID)
		}
	}
	slices.Sort(out)
	return out, api.OK
}
