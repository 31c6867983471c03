package cell

import (
	"firetower/api"
	"firetower/circle"
	"firetower/half"
)

// Halves returns the half-planes of all sightings.
func Halves(s api.Service, b api.Burn, l []api.Report) ([]api.Half, []int, api.Errno) {
	q, e := inquire(s, b, l)
	if e != api.OK {
		return nil, nil, e
	}
	var out []api.Half
	var ids []int
	for _, r := range q.reports {
		x, is := r.(sighting)
		if !is {
			continue
		}
		// There are some: as a Slack is at least 1, the sector has an opening.
		pair, _ := circle.Halves(x.sector, x.at)
		for _, h := range pair {
			out, ids = append(out, h), append(ids, x.ID)
		}
	}
	if len(out) > api.MaxHalves {
		return nil, nil, api.ErrLimit
	}
	return out, ids, api.OK
}

// Bound returns the greatest value of a form in the polygon of all sightings, with a proof.
func Bound(s api.Service, b api.Burn, l []api.Report, f api.Form) (api.Bound, api.Errno) {
	h, _, e := Halves(s, b, l)
	if e != api.OK {
		return api.Bound{}, e
	}
	return half.Best(h, f)
}

// Most returns the greatest value of a form in the cell, and a place that attains it.
func Most(s api.Service, b api.Burn, l []api.Report, f api.Form) (int, api.Place, api.Errno) {
	cell, e := Places(s, b, l)
	if e != api.OK {
		return 0, api.Place{}, e
	}
	if !within(f.X, -api.MaxSlope, api.MaxSlope) || !within(f.Y, -api.MaxSlope, api.MaxSlope) {
		return 0, api.Place{}, api.ErrArg
	}
	if len(cell) == 0 {
		return 0, api.Place{}, api.ErrClash
	}
	value := func(p api.Place) int { return f.X*p.X + f.Y*p.Y }
	at := cell[0]
	for _, p := range cell {
		if value(p) > value(at) {
			at = p
		}
	}
	return value(at), at, api.OK
}

// Hull returns the half-planes of the convex hull of the cell.
func Hull(s api.Service, b api.Burn, l []api.Report) ([]api.Half, api.Errno) {
	cell, e := Places(s, b, l)
	if e != api.OK {
		return nil, e
	}
	if len(cell) == 0 {
		return nil, api.ErrClash
	}
	return half.Hull(cell)
}
