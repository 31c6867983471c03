package half

import (
	"iter"
	"slices"

	"firetower/api"
)

// Corners returns the corners of the polygon of a system.
func Corners(l []api.Half) ([]api.Corner, api.Errno) {
	if e := Check(l); e != api.OK {
		return nil, e
	}
	out := corners(l)
	if len(out) == 0 {
		return nil, api.ErrClash
	}
	return out, api.OK
}

// corners returns the corners of the polygon of a right system, turning left. A polygon within the map that is not empty has some, so that there is none only if it is empty.
func corners(l []api.Half) []api.Corner {
	w := withSides(l)
	var found []api.Corner
	for i, j := range pairs(len(w)) {
		p := crossing(w[i], w[j])
		if p[2] == 0 || !inAll(w, p) {
			continue
		}
		if c := cornerOf(p); !slices.Contains(found, c) {
			found = append(found, c)
		}
	}
	if len(found) == 0 {
		return nil
	}
	out := []api.Corner{slices.MinFunc(found, Compare)}
	for len(out) < len(found) {
		out = append(out, behind(w, found, out[len(out)-1]))
	}
	return out
}

// pairs goes through all pairs of different indices of n things, the lesser index first.
func pairs(n int) iter.Seq2[int, int] {
	return func(yield func(int, int) bool) {
		for j := range n {
			for i := range j {
				if !yield(i, j) {
					return
				}
			}
		}
	}
}

// inAll reports whether a point lies in all of some half-planes.
func inAll(l []api.Half, p triple) bool {
	for _, h := range l {
		if over(h, p) > 0 {
			return false
		}
	}
	return true
}

// behind returns the corner that follows one when the polygon lies to the left: the other one in an edge of both, if it is farther along this edge. If there are no others, it is the corner itself.
func behind(w []api.Half, found []api.Corner, p api.Corner) api.Corner {
	for _, h := range w {
		if over(h, pointOf(p)) != 0 {
			continue
		}
		for _, q := range found {
			if over(h, pointOf(q)) == 0 && order(along(h, p), along(h, q)) < 0 {
				return q
			}
		}
	}
	return p
}

// along returns how far a point of an edge lies in the direction that has the half-plane to its left, as a number and its divisor.
func along(h api.Half, p api.Corner) [2]int { return [2]int{h.A*p.Y - h.B*p.X, p.Den} }

// Places returns the places of the polygon of a system.
func Places(l []api.Half) ([]api.Place, api.Errno) {
	if e := Check(l); e != api.OK {
		return nil, e
	}
	if len(corners(l)) == 0 {
		return nil, api.ErrClash
	}
	var out []api.Place
	for y := range api.MaxSide + 1 {
		for x := range api.MaxSide + 1 {
			if inAll(l, triple{x, y, 1}) {
				out = append(out, api.Place{X: x, Y: y})
			}
		}
	}
	return out, api.OK
}
