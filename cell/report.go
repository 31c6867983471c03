package cell

import (
	"firetower/api"
	"firetower/circle"
)

// quarter is the greatest opening of a sector.
const quarter = api.Divisions / 4

// view is a report that has been checked: from where its tower looked, and in which directions.
type view struct {
	api.Report
	at     api.Place
	sector api.Wedge
	none   bool // it has no sector
}

func (v view) told() view { return v }

// report is a sighting or a blank.
type report interface{ told() view }

// sighting tells that a smoke stands in its sector, at a place that the tower sees.
type sighting struct{ view }

// blank tells that no smoke stands in its sector at a place that the tower sees.
type blank struct{ view }

// reportOf returns what a report tells, or its first error; the service has been checked.
func reportOf(s api.Service, r api.Report) (report, api.Errno) {
	v, zeros, e := viewOf(s, r)
	if e != api.OK {
		return nil, e
	}
	if r.Kind == api.ReBlank {
		return surely(v, zeros), api.OK
	}
	v.sector, e = circle.Wedge(s.Circles, api.Reading{Circle: r.Circle, Tick: r.Tick, Shown: r.From, Slack: r.Slack})
	if e != api.OK {
		return nil, e
	}
	return sighting{v}, api.OK
}

// viewOf returns a report without its sector, and its zeros.
func viewOf(s api.Service, r api.Report) (view, api.Span, api.Errno) {
	if !validReport(r) {
		return view{}, api.Span{}, api.ErrArg
	}
	tower, stands := towerOf(s.Country, r.Tower)
	by, is := circleOf(s.Circles, r.Circle)
	if !stands || !is {
		return view{}, api.Span{}, api.ErrNone
	}
	if by.At != tower.At {
		return view{}, api.Span{}, api.ErrArg
	}
	zeros, e := circle.Zero(s.Circles, r.Circle, r.Tick)
	if e != api.OK {
		return view{}, api.Span{}, e
	}
	return view{Report: r, at: tower.At}, zeros, api.OK
}

func validReport(r api.Report) bool {
	return within(r.ID, 1, api.MaxID) && validTick(r.Tick) && within(r.From, 0, api.Divisions-1) && within(r.Slack, 1, api.MaxSlack) &&
		(r.Kind == api.ReSight && r.To == 0 || r.Kind == api.ReBlank && within(opening(r), 0, quarter))
}

// opening returns how many divisions lie from where a look over a sector began to where it ended; -1 if these are no divisions.
func opening(r api.Report) int { return circle.Opening(api.Wedge{From: r.From, To: r.To}) }

// towerOf returns the tower with an ID, and whether there is one.
func towerOf(c api.Country, id int) (api.Tower, bool) {
	for _, t := range c.Towers {
		if t.ID == id {
			return t, true
		}
	}
	return api.Tower{}, false
}

// circleOf returns the circle with an ID, and whether there is one.
func circleOf(c api.Circles, id int) (api.Circle, bool) {
	for _, x := range c.Circles {
		if x.ID == id {
			return x, true
		}
	}
	return api.Circle{}, false
}

// blur returns how many divisions the bearings that a circle can have shown as one division lie apart.
func blur(r api.Report, zeros api.Span) int { return 2*r.Slack + zeros.Hi - zeros.Lo }

// surely returns a view as a blank: its sector is what was looked over whatever the zero is, and however wrong both readings are.
func surely(v view, zeros api.Span) blank {
	v.none = opening(v.Report) < blur(v.Report, zeros)
	if !v.none {
		v.sector = turned(v.From+v.Slack-zeros.Lo, v.To-v.Slack-zeros.Hi)
	}
	return blank{v}
}

// possibly returns a view as a sighting that can come of a look: its sector is all that can have been looked over. It also reports whether this is at most a quarter of the circle.
func possibly(v view, zeros api.Span) (sighting, bool) {
	if opening(v.Report)+blur(v.Report, zeros) > quarter {
		return sighting{}, false
	}
	v.sector = turned(v.From-v.Slack-zeros.Hi, v.To+v.Slack-zeros.Lo)
	return sighting{v}, true
}

// turned returns the wedge between two numbers, in turns of all divisions.
func turned(from, to int) api.Wedge { return api.Wedge{From: turn(from), To: turn(to)} }

func turn(n int) int { return (n%api.Divisions + api.Divisions) % api.Divisions }
