package cell

import (
	"slices"

	"firetower/api"
	"firetower/ridge"
)

// Smoke is a cell that is kept while reports come and go.
type Smoke struct {
	service api.Service
	burn    api.Burn
	reports []api.Report
}

// New returns a smoke without reports.
func New(s api.Service, b api.Burn) (*Smoke, api.Errno) {
	if e := checkBurn(s, b); e != api.OK {
		return nil, e
	}
	return &Smoke{service: copied(s), burn: b}, api.OK
}

// copied returns a service that shares no memory with another one.
func copied(s api.Service) api.Service {
	s.Country.Map.Ground = slices.Clone(s.Country.Map.Ground)
	s.Country.Towers = slices.Clone(s.Country.Towers)
	s.Country.Haze = slices.Clone(s.Country.Haze)
	s.Circles.Circles = slices.Clone(s.Circles.Circles)
	s.Circles.Checks = slices.Clone(s.Circles.Checks)
	return s
}

// Put adds a report.
func (x *Smoke) Put(r api.Report) api.Errno {
	if len(x.reports) >= api.MaxReports {
		return api.ErrLimit
	}
	if e := CheckReport(x.service, r); e != api.OK {
		return e
	}
	if has(x.reports, r.ID) {
		return api.ErrTwice
	}
	x.reports = append(x.reports, r)
	return api.OK
}

// Take withdraws a report.
func (x *Smoke) Take(id int) api.Errno {
	i := indexOf(x.reports, id)
	if i < 0 {
		return api.ErrNone
	}
	x.reports = slices.Delete(x.reports, i, i+1)
	return api.OK
}

// Reports returns the reports that stand, in the order in which they came.
func (x *Smoke) Reports() []api.Report { return slices.Clone(x.reports) }

// Cell returns the places that all of them allow.
func (x *Smoke) Cell() []api.Place {
	out, _ := Places(x.service, x.burn, x.reports)
	return out
}

// Why returns the first report that excludes a place.
func (x *Smoke) Why(p api.Place) (int, bool) {
	q, _ := inquire(x.service, x.burn, x.reports)
	if !ridge.On(q.ground(), p) {
		return 0, false
	}
	for _, r := range q.reasons(slices.Values([]api.Place{p})) {
		return r.Report, true
	}
	return 0, false
}
