package cell

import (
	"cmp"
	"slices"

	"firetower/api"
)

// part is a report, by its ID, and the places that it allows.
type part struct {
	id      int
	allowed set
}

// parts returns the reports by their IDs, in increasing order.
func (q inquiry) parts() []part {
	all := whole(q.ground())
	var out []part
	for _, r := range q.reports {
		out = append(out, part{r.told().ID, q.left(r, all)})
	}
	slices.SortFunc(out, func(a, b part) int { return cmp.Compare(a.id, b.id) })
	return out
}

// common returns the cell of some of the reports.
func (q inquiry) common(l []part) set {
	var sets []set
	for _, x := range l {
		sets = append(sets, x.allowed)
	}
	return meet(whole(q.ground()), sets...)
}

// clash reports whether some of the reports do not agree.
func (q inquiry) clash(l []part) bool { return q.common(l).empty() }

// without returns all parts but the one with an index.
func without(l []part, i int) []part { return slices.Concat(l[:i], l[i+1:]) }

// Core returns reports that contradict each other, none of which can be left out.
func Core(s api.Service, b api.Burn, l []api.Report) ([]int, api.Errno) {
	q, e := inquire(s, b, l)
	if e != api.OK {
		return nil, e
	}
	left := q.parts()
	if !q.clash(left) {
		return nil, api.ErrNone
	}
	for i := 0; i < len(left); {
		if others := without(left, i); q.clash(others) {
			left = others
		} else {
			i++
		}
	}
	var out []int
	for _, x := range left {
		out = append(out, x.id)
	}
	return out, api.OK
}

// Suspects returns the reports without each of which the others agree.
func Suspects(s api.Service, b api.Burn, l []api.Report) ([]int, api.Errno) {
	q, e := inquire(s, b, l)
	if e != api.OK {
		return nil, e
	}
	// If all agree, so do all but one, but none of them is suspect.
	all := q.parts()
	clash := q.clash(all)
	return alone(all, func(others []part) bool { return clash && !q.clash(others) }), api.OK
}

// Needed returns the reports without each of which the cell is larger.
func Needed(s api.Service, b api.Burn, l []api.Report) ([]int, api.Errno) {
	q, e := inquire(s, b, l)
	if e != api.OK {
		return nil, e
	}
	all := q.parts()
	cell := q.common(all)
	return alone(all, func(others []part) bool { return q.common(others) != cell }), api.OK
}

// alone returns the IDs of the parts for which something is so of all others.
func alone(l []part, is func(others []part) bool) []int {
	var out []int
	for i, x := range l {
		if is(without(l, i)) {
			out = append(out, x.id)
		}
	}
	return out
}
