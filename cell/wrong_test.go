package cell_test

import (
	"math"
	"slices"

	"firetower/api"
)

// rich returns a service with haze, checks, a ridge, two towers at one place, and a circle, 9, that contradicts itself.
func rich() api.Service {
	s := example()
	for y := range 21 {
		s.Country.Map.Ground[y*21+5] = 10 + y
	}
	s.Country.Towers = append(s.Country.Towers, api.Tower{ID: 1 << 40, At: at(20, 0), Height: 3}, api.Tower{ID: 4, At: at(10, 20)})
	s.Country.Haze = []api.Haze{{From: 35, To: 38, Far: 12}, {From: 100, To: 100}}
	s.Circles.Circles = append(s.Circles.Circles, api.Circle{ID: 9, At: at(20, 0), To: 2000}, api.Circle{ID: 1 << 40, From: 10, To: 1 << 20, Zero: span(-300, 300), Drift: 60})
	s.Circles.Checks = []api.Check{
		{ID: 3, Circle: 9, Tick: 5, Mark: at(20, 40), Shown: 910, Slack: 3},
		{ID: 2, Circle: 1 << 40, Tick: 20, Mark: at(48, 0), Shown: 5, Slack: 100},
	}
	return s
}

// richReports returns reports of the rich service that agree.
func richReports() []api.Report {
	_, l := told()
	l[0].Circle, l[0].Slack = 1<<40, 100
	l[2].From, l[2].To = 700, 900
	return append(l, api.Report{ID: 1 << 40, Kind: api.ReBlank, Tower: 1 << 40, Circle: 2, Tick: 1000, From: 3599, To: 899, Slack: 100})
}

// many returns so many right reports of the example and the rich service.
func many(n int) []api.Report {
	var out []api.Report
	for i := range n {
		_, l := told()
		r := l[i%3]
		r.ID = 1 + (i*7)%30
		out = append(out, r)
	}
	return out
}

// changed is something wrong, and its first error.
type changed[T any] struct {
	name string
	e    api.Errno
	do   func(x *T)
}

// wrongServices returns what can be wrong with the rich service.
func wrongServices() []changed[api.Service] {
	type change = changed[api.Service]
	none := func(s *api.Service) { s.Circles.Circles[1].At = at(19, 0) }
	clear := func(s *api.Service) { s.Country.Map.Wide = 0 }
	twice := func(s *api.Service) { s.Country.Towers[1].ID = 1 }
	same := func(s *api.Service) { s.Circles.Circles[1].ID = 1 }
	late := func(s *api.Service) { s.Circles.Checks[0].Tick = 2001 }
	crowd := func(s *api.Service) { s.Circles.Circles = make([]api.Circle, 13) }
	both := func(f, g func(s *api.Service)) func(s *api.Service) { return func(s *api.Service) { f(s); g(s) } }
	return []change{
		{"no map", api.ErrArg, clear},
		{"no service", api.ErrArg, func(s *api.Service) { *s = api.Service{} }},
		{"ground too high", api.ErrArg, func(s *api.Service) { s.Country.Map.Ground[440] = 4001 }},
		{"ground too short", api.ErrArg, func(s *api.Service) { s.Country.Map.Ground = s.Country.Map.Ground[1:] }},
		{"map too wide", api.ErrArg, func(s *api.Service) { s.Country.Map = flat(50, 2, 0) }},
		{"13 towers", api.ErrLimit, func(s *api.Service) { s.Country.Towers = make([]api.Tower, 13) }},
		{"tower beside the map", api.ErrArg, func(s *api.Service) { s.Country.Towers[3].At.Y = 21 }},
		{"tower twice", api.ErrTwice, twice},
		{"61 hazes", api.ErrLimit, func(s *api.Service) { s.Country.Haze = make([]api.Haze, 61) }},
		{"haze in no order", api.ErrArg, func(s *api.Service) { s.Country.Haze[1].From = 38 }},
		{"13 circles", api.ErrLimit, crowd},
		{"61 checks", api.ErrLimit, func(s *api.Service) { s.Circles.Checks = make([]api.Check, 61) }},
		{"circle 0", api.ErrArg, func(s *api.Service) { s.Circles.Circles[2].ID = 0 }},
		{"circle twice", api.ErrTwice, same},
		{"check of no circle", api.ErrNone, func(s *api.Service) { s.Circles.Checks[1].Circle = 8 }},
		{"check of no circle, late one", api.ErrNone, func(s *api.Service) { s.Circles.Checks[0].Circle, s.Circles.Checks[1].Tick = 8, 9 }},
		{"late check", api.ErrArg, late},
		{"circle at no tower", api.ErrNone, none},
		{"last circle at no tower", api.ErrNone, func(s *api.Service) { s.Circles.Circles[3].At = at(0, 1) }},
		{"circle beside the map", api.ErrNone, func(s *api.Service) { s.Circles.Circles[0].At = at(48, 48) }},
		{"no towers", api.ErrNone, func(s *api.Service) { s.Country.Towers = nil }},
		{"no map, circle twice", api.ErrArg, both(clear, same)},
		{"tower twice, 13 circles", api.ErrTwice, both(twice, crowd)},
		{"tower twice, at no tower", api.ErrTwice, both(twice, none)},
		{"circle twice, at no tower", api.ErrTwice, both(same, none)},
		{"late check, at no tower", api.ErrArg, both(late, none)},
		{"circle -1, another at no tower", api.ErrArg, both(none, func(s *api.Service) { s.Circles.Circles[3].ID = -1 })},
	}
}

// wrongReports returns what can be wrong with the first one of the rich reports, a sighting.
func wrongReports() []changed[api.Report] {
	return slices.Concat(wrongKinds(), wrongSectors(), wrongStands(), asBlanks(wrongStands()), doublyWrong(), eachNumber())
}

// wrongKinds returns reports of no kind, and sightings that are as only blanks can be.
func wrongKinds() []changed[api.Report] {
	return []changed[api.Report]{
		{"no kind", api.ErrArg, func(r *api.Report) { r.Kind = 0 }},
		{"kind 3", api.ErrArg, func(r *api.Report) { r.Kind = 3 }},
		{"kind -1", api.ErrArg, func(r *api.Report) { r.Kind = -1 }},
		{"sighting with To", api.ErrArg, func(r *api.Report) { r.To = 1 }},
		{"sighting with To as From", api.ErrArg, func(r *api.Report) { r.To = r.From }},
		{"sighting with To below", api.ErrArg, func(r *api.Report) { r.To = -1 }},
	}
}

// wrongSectors returns blanks of what is no sector.
func wrongSectors() []changed[api.Report] {
	return []changed[api.Report]{
		{"blank of more than a quarter", api.ErrArg, func(r *api.Report) { r.Kind, r.From, r.To = 2, 450, 1351 }},
		{"blank of more than a quarter beyond a turn", api.ErrArg, func(r *api.Report) { r.Kind, r.From, r.To = 2, 3599, 900 }},
		{"blank of a whole turn", api.ErrArg, func(r *api.Report) { r.Kind, r.From, r.To = 2, 450, 449 }},
		{"blank to 3600", api.ErrArg, func(r *api.Report) { r.Kind, r.From, r.To = 2, 3000, 3600 }},
		{"blank to -1", api.ErrArg, func(r *api.Report) { r.Kind, r.From, r.To = 2, 3000, -1 }},
		{"blank to very far", api.ErrArg, func(r *api.Report) { r.Kind, r.To = 2, math.MaxInt }},
		{"blank from 3600", api.ErrArg, func(r *api.Report) { r.Kind, r.From, r.To = 2, 3600, 10 }},
		{"blank from -1", api.ErrArg, func(r *api.Report) { r.Kind, r.From, r.To = 2, -1, 10 }},
	}
}

// wrongStands returns reports whose tower and circle are wrong.
func wrongStands() []changed[api.Report] {
	return []changed[api.Report]{
		{"no tower", api.ErrNone, func(r *api.Report) { r.Tower = 7 }},
		{"tower 0", api.ErrNone, func(r *api.Report) { r.Tower = 0 }},
		{"tower far off", api.ErrNone, func(r *api.Report) { r.Tower = math.MinInt }},
		{"no circle", api.ErrNone, func(r *api.Report) { r.Circle = 7 }},
		{"circle 0", api.ErrNone, func(r *api.Report) { r.Circle = 0 }},
		{"circle far off", api.ErrNone, func(r *api.Report) { r.Circle = math.MaxInt }},
		{"no circle, tower elsewhere", api.ErrNone, func(r *api.Report) { r.Tower, r.Circle = 2, 7 }},
		{"no tower, circle elsewhere", api.ErrNone, func(r *api.Report) { r.Tower, r.Circle = 7, 2 }},
		{"circle of another tower", api.ErrArg, func(r *api.Report) { r.Circle = 2 }},
		{"tower of another circle", api.ErrArg, func(r *api.Report) { r.Tower = 4 }},
		{"before the circle", api.ErrArg, func(r *api.Report) { r.Tick = 9 }},
		{"after the circle", api.ErrArg, func(r *api.Report) { r.Circle, r.Tick = 1, 1001 }},
		{"circle that contradicts itself", api.ErrClash, func(r *api.Report) { r.Tower, r.Circle = 2, 9 }},
		{"circle that contradicts itself, by the other tower", api.ErrClash, func(r *api.Report) { r.Tower, r.Circle = 1<<40, 9 }},
	}
}

// asBlanks returns the same of a blank.
func asBlanks(l []changed[api.Report]) []changed[api.Report] {
	var out []changed[api.Report]
	for _, x := range l {
		out = append(out, changed[api.Report]{"blank: " + x.name, x.e, func(r *api.Report) { x.do(r); r.Kind, r.To = 2, 500 }})
	}
	return out
}

// doublyWrong returns reports with several errors, to tell which one comes first.
func doublyWrong() []changed[api.Report] {
	return []changed[api.Report]{
		{"no ID, no tower", api.ErrArg, func(r *api.Report) { r.ID, r.Tower = 0, 7 }},
		{"no kind, no circle", api.ErrArg, func(r *api.Report) { r.Kind, r.Circle = 0, 7 }},
		{"late, no tower", api.ErrArg, func(r *api.Report) { r.Tick, r.Tower = 1<<20+1, 7 }},
		{"no slack, no tower", api.ErrArg, func(r *api.Report) { r.Slack, r.Tower = 0, 7 }},
		{"sighting with To, no circle", api.ErrArg, func(r *api.Report) { r.To, r.Circle = 5, 7 }},
		{"no slack, contradiction", api.ErrArg, func(r *api.Report) { r.Slack, r.Tower, r.Circle = 0, 2, 9 }},
		{"no tower, contradiction", api.ErrNone, func(r *api.Report) { r.Tower, r.Circle = 7, 9 }},
		{"no tower, before the circle", api.ErrNone, func(r *api.Report) { r.Tower, r.Tick = 7, 9 }},
		{"no circle, not of the minute", api.ErrNone, func(r *api.Report) { r.Circle, r.Tick = 7, 1<<20 }},
		{"another tower's circle, contradiction", api.ErrArg, func(r *api.Report) { r.Circle = 9 }},
		{"contradiction, after the circle", api.ErrArg, func(r *api.Report) { r.Tower, r.Circle, r.Tick = 2, 9, 2001 }},
	}
}

// eachNumber returns reports in which one number is beyond its bounds.
func eachNumber() []changed[api.Report] {
	var out []changed[api.Report]
	for _, x := range []struct {
		name     string
		min, max int
		set      func(r *api.Report, n int)
	}{
		{"ID", 1, 1 << 40, func(r *api.Report, n int) { r.ID = n }},
		{"Tick", 0, 1 << 20, func(r *api.Report, n int) { r.Tick = n }},
		{"From", 0, 3599, func(r *api.Report, n int) { r.From = n }},
		{"Slack", 1, 100, func(r *api.Report, n int) { r.Slack = n }},
	} {
		for _, n := range []int{x.min - 1, x.max + 1, math.MinInt, math.MaxInt} {
			// Without a tower these errors would not come first, if they were those of the circle.
			out = append(out, changed[api.Report]{x.name, api.ErrArg, func(r *api.Report) { x.set(r, n); r.Tower = 7 }})
		}
	}
	return out
}

// wrongBurns returns burns that are not valid.
func wrongBurns() []api.Burn {
	const most, least = math.MaxInt, math.MinInt
	return []api.Burn{
		{From: -1, To: 50}, {From: 51, To: 50}, {From: 5, To: -1}, {From: 10, To: 1<<20 + 1}, {From: 1<<20 + 1, To: 1<<20 + 1}, {From: 1 << 20, To: 0},
		{From: 10, To: 50, Rise: -1}, {From: 10, To: 50, Rise: 201}, {From: least, To: 50}, {From: 10, To: most}, {From: 10, To: 50, Rise: most}, {From: 10, To: 50, Rise: least}, {From: most, To: least},
	}
}

// wrongLists returns what can be wrong with the rich reports as a list.
func wrongLists() []changed[[]api.Report] {
	type change = changed[[]api.Report]
	twice := func(l *[]api.Report) { (*l)[1].ID = 5 }
	out := []change{
		{"25 reports", api.ErrLimit, func(l *[]api.Report) { *l = many(25) }},
		{"25 wrong ones", api.ErrLimit, func(l *[]api.Report) { *l = make([]api.Report, 25) }},
		{"the same one twice", api.ErrTwice, func(l *[]api.Report) { *l = append(*l, (*l)[0]) }},
		{"same ID", api.ErrTwice, twice},
		{"same ID at the end", api.ErrTwice, func(l *[]api.Report) { (*l)[3].ID = 7 }},
		{"same ID, then a wrong one", api.ErrTwice, func(l *[]api.Report) { twice(l); (*l)[2].Slack = 0 }},
		{"a wrong one, then same ID", api.ErrArg, func(l *[]api.Report) { (*l)[0].Slack = 0; (*l)[2].ID = 6 }},
		{"one that is wrong, with the same ID", api.ErrNone, func(l *[]api.Report) { twice(l); (*l)[1].Tower = 7 }},
		{"two wrong ones", api.ErrNone, func(l *[]api.Report) { (*l)[1].Tower = 7; (*l)[2].Slack = 0 }},
		{"two other wrong ones", api.ErrArg, func(l *[]api.Report) { (*l)[1].Slack = 0; (*l)[2].Tower = 7 }},
	}
	for _, x := range wrongReports() {
		out = append(out, change{x.name, x.e, func(l *[]api.Report) { x.do(&(*l)[0]) }})
		out = append(out, change{x.name + ", last", x.e, func(l *[]api.Report) { first := (*l)[0]; x.do(&first); *l = append((*l)[1:], first) }})
	}
	return out
}
