package half

import (
	"cmp"
	"slices"

	"firetower/api"
)

// Hull returns the half-planes of the convex hull of places.
func Hull(l []api.Place) ([]api.Half, api.Errno) {
	if len(l) == 0 {
		return nil, api.ErrNone
	}
	for _, p := range l {
		if !validPlace(p) {
			return nil, api.ErrArg
		}
	}
	ends := outermost(l)
	p := ends[0]
	if len(ends) == 1 {
		return []api.Half{through(p, -1, 0), through(p, 1, 0), through(p, 0, -1), through(p, 0, 1)}, api.OK
	}
	var out []api.Half
	for i, q := range ends {
		next := ends[(i+1)%len(ends)]
		out = append(out, through(q, next.Y-q.Y, q.X-next.X))
	}
	if len(ends) == 2 {
		q := ends[1]
		out = append(out, through(p, p.X-q.X, p.Y-q.Y), through(q, q.X-p.X, q.Y-p.Y))
	}
	return out, api.OK
}

// through returns the half-plane with an A and a B whose edge goes through a place.
func through(p api.Place, a, b int) api.Half { return api.Half{A: a, B: b, C: a*p.X + b*p.Y} }

// outermost returns the corners of the convex hull of places, turning left, beginning with the first one by X and then by Y.
func outermost(l []api.Place) []api.Place {
	way := slices.Clone(l)
	slices.SortFunc(way, func(p, q api.Place) int { return cmp.Or(cmp.Compare(p.X, q.X), cmp.Compare(p.Y, q.Y)) })
	way = slices.Compact(way)
	var out []api.Place
	// Behind the first `fixed` ones, a place stays a corner only as long as the way turns left at it.
	grow := func(p api.Place, fixed int) {
		for len(out) > fixed && !turnsLeft(out[len(out)-2], out[len(out)-1], p) {
			out = out[:len(out)-1]
		}
		out = append(out, p)
	}
	for _, p := range way {
		grow(p, 1)
	}
	east := len(out)
	for _, p := range slices.Backward(way) {
		grow(p, east)
	}
	// The way ends where it began.
	return out[:len(out)-1]
}

// turnsLeft reports whether one turns left at q, coming from p and going on to r.
func turnsLeft(p, q, r api.Place) bool {
	return (q.X-p.X)*(r.Y-q.Y) > (q.Y-p.Y)*(r.X-q.X)
}
