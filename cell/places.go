package cell

import (
	"iter"

	"firetower/api"
)

// reasons returns, for each one of some places that is excluded, the first report that excludes it.
func (q inquiry) reasons(among iter.Seq[api.Place]) []api.Reason {
	var out []api.Reason
	excluded := func(p api.Place, by report) bool {
		if q.allows(by, p) {
			return false
		}
		out = append(out, api.Reason{At: p, Report: by.told().ID})
		return true
	}
search:
	for p := range among {
		for _, r := range q.reports {
			if excluded(p, r) {
				continue search
			}
		}
	}
	return out
}

// Places returns the cell of a smoke: all places that all reports allow.
func Places(s api.Service, b api.Burn, l []api.Report) ([]api.Place, api.Errno) {
	q, e := inquire(s, b, l)
	if e != api.OK {
		return nil, e
	}
	return listed(q.ground(), q.cell()), api.OK
}

// Reasons returns, for each place that is not in the cell, the first report that excludes it.
func Reasons(s api.Service, b api.Burn, l []api.Report) ([]api.Reason, api.Errno) {
	q, e := inquire(s, b, l)
	if e != api.OK {
		return nil, e
	}
	return q.reasons(places(q.ground())), api.OK
}

// CheckCell returns OK if a cell is proved by reasons.
func CheckCell(s api.Service, b api.Burn, l []api.Report, places []api.Place, reasons []api.Reason) api.Errno {
	q, e := inquire(s, b, l)
	if e != api.OK {
		return e
	}
	if !q.proved(places, reasons) {
		return api.ErrProof
	}
	return api.OK
}

// proved reports whether each place of the map comes next in just one of two lists, is allowed by all reports if it is one of the first list, and excluded for its reason if it is one of the second.
func (q inquiry) proved(cell []api.Place, reasons []api.Reason) bool {
	for p := range places(q.ground()) {
		switch {
		case len(cell) > 0 && cell[0] == p:
			if !q.agrees(p) {
				return false
			}
			cell = cell[1:]
		case len(reasons) > 0 && reasons[0].At == p:
			if !q.excludes(reasons[0].Report, p) {
				return false
			}
			reasons = reasons[1:]
		default:
			return false
		}
	}
	return len(cell) == 0 && len(reasons) == 0
}

// agrees reports whether all reports allow a place.
func (q inquiry) agrees(p api.Place) bool {
	for _, r := range q.reports {
		if !q.allows(r, p) {
			return false
		}
	}
	return true
}

// excludes reports whether there is a report with an ID, and it does not allow a place.
func (q inquiry) excludes(id int, p api.Place) bool {
	for _, r := range q.reports {
		if r.told().ID == id {
			return !q.allows(r, p)
		}
	}
	return false
}
