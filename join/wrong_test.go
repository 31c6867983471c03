package join_test

import (
	"math"
	"slices"

	"firetower/api"
)

// rich returns a day with haze, checks, a circle, 9, that contradicts itself, and blanks between its sightings.
func rich() api.Day {
	d := more(example(), blank())
	d.Rise = 10
	s := &d.Service
	s.Country.Towers = append(s.Country.Towers, api.Tower{ID: 1 << 40, At: at(8, 8), Height: 5})
	s.Country.Haze = []api.Haze{{From: 400, To: 500, Far: 3}}
	s.Circles.Circles = append(s.Circles.Circles, api.Circle{ID: 9, At: at(8, 8), To: 2000}, api.Circle{ID: 7, At: at(8, 8), To: 2000, Zero: span(-5, 5), Drift: 2})
	s.Circles.Checks = []api.Check{
		{ID: 3, Circle: 9, Tick: 5, Mark: at(8, 40), Shown: 910, Slack: 3},
		{ID: 2, Circle: 7, Tick: 20, Mark: at(48, 8), Shown: 5, Slack: 100},
	}
	d.Reports[3].Tick = 200
	d.Reports = append(d.Reports, api.Report{ID: 1 << 40, Kind: api.ReSight, Tower: 1 << 40, Circle: 7, Tick: 320, From: 2250, Slack: 20})
	return d
}

// changed is something wrong, and its first error.
type changed[T any] struct {
	name string
	e    api.Errno
	do   func(x *T)
}

// wrongDays returns what can be wrong with the rich day.
func wrongDays() []changed[api.Day] {
	return slices.Concat(wrongServices(), wrongNumbers(), wrongLists(), doublyWrong())
}

func noMap(d *api.Day) { d.Service.Country.Map.Wide = 0 }

func towerTwice(d *api.Day) { d.Service.Country.Towers[1].ID = 1 }

func noTower(d *api.Day) { d.Service.Circles.Circles[1].At = at(7, 0) }

func sightings8(d *api.Day) { d.Reports = append(full(8, 0).Reports, blank()) }

func blanks11(d *api.Day) { d.Reports = full(1, 11).Reports }

func noReports(d *api.Day) { d.Reports = nil }

// each returns a change that is all of some changes.
func each(l ...func(d *api.Day)) func(d *api.Day) {
	return func(d *api.Day) {
		for _, do := range l {
			do(d)
		}
	}
}

// report returns a change of the report with an index.
func report(i int, do func(r *api.Report)) func(d *api.Day) {
	return func(d *api.Day) { do(&d.Reports[i]) }
}

func wrongServices() []changed[api.Day] {
	return []changed[api.Day]{
		{"no day", api.ErrArg, func(d *api.Day) { *d = api.Day{} }},
		{"no map", api.ErrArg, noMap},
		{"no map and no reports", api.ErrArg, each(noMap, noReports)},
		{"tower twice", api.ErrTwice, towerTwice},
		{"13 towers", api.ErrLimit, func(d *api.Day) { d.Service.Country.Towers = make([]api.Tower, 13) }},
		{"circle twice", api.ErrTwice, func(d *api.Day) { d.Service.Circles.Circles[1].ID = 1 }},
		{"circle at no tower", api.ErrNone, noTower},
		{"circle at no tower, no reports", api.ErrNone, each(noTower, noReports)},
		{"check of no circle", api.ErrNone, func(d *api.Day) { d.Service.Circles.Checks[0].Circle = 8 }},
		{"late check", api.ErrArg, func(d *api.Day) { d.Service.Circles.Checks[1].Tick = 2001 }},
	}
}

func wrongNumbers() []changed[api.Day] {
	var out []changed[api.Day]
	for _, n := range []int{-1, 201, 1440, math.MaxInt, math.MinInt} {
		out = append(out, changed[api.Day]{"Rise", api.ErrArg, func(d *api.Day) { d.Rise = n }}, changed[api.Day]{"Rise, no reports", api.ErrArg, func(d *api.Day) { d.Rise, d.Reports = n, nil }})
	}
	for _, n := range []int{-1, 1441, math.MaxInt, math.MinInt} {
		out = append(out, changed[api.Day]{"Long", api.ErrArg, func(d *api.Day) { d.Long = n }}, changed[api.Day]{"Long, no reports", api.ErrArg, func(d *api.Day) { d.Long, d.Reports = n, nil }})
	}
	return out
}

func wrongLists() []changed[api.Day] {
	type change = changed[api.Day]
	out := []change{
		{"8 sightings", api.ErrLimit, sightings8},
		{"11 blanks", api.ErrLimit, blanks11},
		{"the same report twice", api.ErrTwice, func(d *api.Day) { d.Reports = append(d.Reports, d.Reports[0]) }},
		{"a sighting and a blank with one ID", api.ErrTwice, report(3, func(r *api.Report) { r.ID = 1 })},
		{"two sightings with one ID", api.ErrTwice, report(2, func(r *api.Report) { r.ID = 1 })},
		{"the last one with the ID of the one before it", api.ErrTwice, report(4, func(r *api.Report) { r.ID = 4 })},
	}
	for _, i := range []int{0, 2} {
		out = append(out,
			change{"ID 0", api.ErrArg, report(i, func(r *api.Report) { r.ID = 0 })},
			change{"ID too great", api.ErrArg, report(i, func(r *api.Report) { r.ID = 1<<40 + 1 })},
			change{"no kind", api.ErrArg, report(i, func(r *api.Report) { r.Kind = 0 })},
			change{"kind 3", api.ErrArg, report(i, func(r *api.Report) { r.Kind = 3 })},
			change{"sighting with To", api.ErrArg, report(i, func(r *api.Report) { r.To = 500 })},
			change{"tick below", api.ErrArg, report(i, func(r *api.Report) { r.Tick = -1 })},
			change{"after the circle", api.ErrArg, report(i, func(r *api.Report) { r.Tick = 1001 })},
			change{"no slack", api.ErrArg, report(i, func(r *api.Report) { r.Slack = 0 })},
			change{"too much slack", api.ErrArg, report(i, func(r *api.Report) { r.Slack = 101 })},
			change{"no tower", api.ErrNone, report(i, func(r *api.Report) { r.Tower = 5 })},
			change{"no circle", api.ErrNone, report(i, func(r *api.Report) { r.Circle = 5 })},
			change{"circle of another tower", api.ErrArg, report(i, func(r *api.Report) { r.Circle = 2 })},
			change{"circle that contradicts itself", api.ErrClash, report(i, func(r *api.Report) { r.Tower, r.Circle = 1<<40, 9 })},
		)
	}
	return append(out,
		change{"blank of more than a quarter", api.ErrArg, report(3, func(r *api.Report) { r.To = r.From + 901 })},
		change{"blank of no tower", api.ErrNone, report(3, func(r *api.Report) { r.Tower = 5 })},
		change{"blank of a circle that contradicts itself", api.ErrClash, report(3, func(r *api.Report) { r.Tower, r.Circle = 1<<40, 9 })},
	)
}

// doublyWrong returns days with several errors, to tell which one comes first.
func doublyWrong() []changed[api.Day] {
	rise := func(d *api.Day) { d.Rise = -1 }
	long := func(d *api.Day) { d.Long = 1441 }
	first := report(0, func(r *api.Report) { r.Tower = 5 })
	same := report(1, func(r *api.Report) { r.ID = 1 })
	return []changed[api.Day]{
		{"tower twice, Rise, 8 sightings", api.ErrTwice, each(towerTwice, rise, sightings8)},
		{"circle at no tower, Long", api.ErrNone, each(noTower, long)},
		{"circle at no tower, 11 blanks", api.ErrNone, each(noTower, blanks11)},
		{"tower twice, first report", api.ErrTwice, each(towerTwice, first)},
		{"Rise, 8 sightings", api.ErrArg, each(rise, sightings8)},
		{"Long, 8 sightings", api.ErrArg, each(long, sightings8)},
		{"Rise, 11 blanks", api.ErrArg, each(rise, blanks11)},
		{"Long, 11 blanks", api.ErrArg, each(long, blanks11)},
		{"Rise, first report", api.ErrArg, each(rise, first)},
		{"Long, same ID", api.ErrArg, each(long, same)},
		{"8 sightings, first report", api.ErrLimit, each(sightings8, first)},
		{"11 blanks, first report", api.ErrLimit, each(blanks11, first)},
		{"8 sightings, same ID", api.ErrLimit, func(d *api.Day) { d.Reports = slices.Repeat(example().Reports[:1], 8) }},
		{"first report, same ID", api.ErrNone, each(first, same)},
		{"same ID, then a wrong report", api.ErrTwice, each(same, report(2, func(r *api.Report) { r.Tower = 5 }))},
		{"a wrong report with the same ID", api.ErrNone, each(same, report(1, func(r *api.Report) { r.Tower = 5 }))},
		{"wrong report, then another one", api.ErrNone, each(first, report(1, func(r *api.Report) { r.Slack = 0 }))},
		{"another one, then the wrong report", api.ErrArg, each(report(0, func(r *api.Report) { r.Slack = 0 }), report(1, func(r *api.Report) { r.Tower = 5 }))},
	}
}
