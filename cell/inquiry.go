package cell

import (
	"firetower/api"
	"firetower/circle"
	"firetower/ridge"
)

// inquiry is a service, a burn and what the reports of a list tell, all of which have been checked.
type inquiry struct {
	service api.Service
	burn    api.Burn
	reports []report
}

// inquire returns an inquiry, or the first error of a service, of a burn, and of a list.
func inquire(s api.Service, b api.Burn, l []api.Report) (inquiry, api.Errno) {
	if e := checkBurn(s, b); e != api.OK {
		return inquiry{}, e
	}
	if len(l) > api.MaxReports {
		return inquiry{}, api.ErrLimit
	}
	q := inquiry{service: s, burn: b}
	for i, r := range l {
		x, e := reportOf(s, r)
		if e != api.OK {
			return inquiry{}, e
		}
		if has(l[:i], r.ID) {
			return inquiry{}, api.ErrTwice
		}
		q.reports = append(q.reports, x)
	}
	return q, api.OK
}

// has reports whether a list has a report with an ID.
func has(l []api.Report, id int) bool { return indexOf(l, id) >= 0 }

// indexOf returns the index of the report with an ID; -1 if a list has none.
func indexOf(l []api.Report, id int) int {
	for i, r := range l {
		if r.ID == id {
			return i
		}
	}
	return -1
}

// ground returns the map on which the smoke stands.
func (q inquiry) ground() api.Map { return q.service.Country.Map }

// allows reports whether a report allows a place of the map.
func (q inquiry) allows(r report, p api.Place) bool {
	shown := q.shows(r.told(), p)
	switch r.(type) {
	case blank:
		return !shown
	default:
		return shown
	}
}

// shows reports whether a smoke at a place would be seen in the sector of a view.
func (q inquiry) shows(v view, p api.Place) bool {
	// The line of sight comes last, because it takes the longest.
	if v.none || !within(v.Tick, q.burn.From, q.burn.To) || !circle.Lies(v.sector, v.at, p) {
		return false
	}
	sees, _ := ridge.Sees(q.service.Country, v.Tower, p, q.burn.Rise, v.Tick)
	return sees
}

// left returns the places of a set that a report allows.
func (q inquiry) left(r report, among set) set {
	var out set
	for p := range places(q.ground()) {
		if among.has(p) && q.allows(r, p) {
			out.add(p)
		}
	}
	return out
}

// cell returns the places that all reports allow. Each report is asked only for what those before it have left: mostly a few places.
func (q inquiry) cell() set {
	out := whole(q.ground())
	for _, r := range q.reports {
		out = q.left(r, out)
	}
	return out
}
