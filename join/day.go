package join

import (
	"slices"

	"firetower/api"
	"firetower/cell"
)

// Check returns the first error of a day.
func Check(d api.Day) api.Errno {
	if e := cell.Check(d.Service); e != api.OK {
		return e
	}
	if !within(d.Rise, 0, api.MaxTall) || !within(d.Long, 0, api.MaxLong) {
		return api.ErrArg
	}
	sightings := 0
	for _, r := range d.Reports {
		if r.Kind == api.ReSight {
			sightings++
		}
	}
	if sightings > api.MaxSightings || len(d.Reports)-sightings > api.MaxBlanks {
		return api.ErrLimit
	}
	for i, r := range d.Reports {
		if e := cell.CheckReport(d.Service, r); e != api.OK {
			return e
		}
		if slices.ContainsFunc(d.Reports[:i], func(o api.Report) bool { return o.ID == r.ID }) {
			return api.ErrTwice
		}
	}
	return api.OK
}

// within reports whether a number is from least to most.
func within(n, least, most int) bool { return n >= least && n <= most }

// With returns a day with a further report.
func With(d api.Day, r api.Report) (api.Day, api.Errno) {
	if e := Check(d); e != api.OK {
		return api.Day{}, e
	}
	out := copied(d)
	out.Reports = append(out.Reports, r)
	if e := Check(out); e != api.OK {
		return api.Day{}, e
	}
	return out, api.OK
}

// Without returns a day without some reports.
func Without(d api.Day, ids []int) (api.Day, api.Errno) {
	if e := Check(d); e != api.OK {
		return api.Day{}, e
	}
	out := copied(d)
	out.Reports = slices.DeleteFunc(out.Reports, func(r api.Report) bool { return slices.Contains(ids, r.ID) })
	return out, api.OK
}

// copied returns a day that shares no memory with another one.
func copied(d api.Day) api.Day {
	country, circles := &d.Service.Country, &d.Service.Circles
	country.Map.Ground = slices.Clone(country.Map.Ground)
	country.Towers = slices.Clone(country.Towers)
	country.Haze = slices.Clone(country.Haze)
	circles.Circles = slices.Clone(circles.Circles)
	circles.Checks = slices.Clone(circles.Checks)
	d.Reports = slices.Clone(d.Reports)
	return d
}
