package circle_test

import (
	"math"
	"slices"

	"firetower/api"
)

// three returns three circles with checks that agree.
func three() api.Circles {
	return api.Circles{
		Circles: []api.Circle{
			{ID: 5, At: at(0, 48), From: 10, To: 1 << 20, Zero: span(-300, 300), Drift: 60},
			{ID: 1, At: at(10, 10), From: 0, To: 1000, Zero: span(-5, 5), Drift: 6},
			{ID: 1 << 40, At: at(10, 10), From: 500, To: 500, Zero: span(7, 7), Drift: 0},
		},
		Checks: []api.Check{
			{ID: 1 << 40, Circle: 1, Tick: 200, Mark: at(20, 15), Shown: 230, Slack: 2},
			{ID: 1, Circle: 5, Tick: 1 << 20, Mark: at(48, 0), Shown: 3049, Slack: 100},
			{ID: 7, Circle: 1, Tick: 100, Mark: at(20, 15), Shown: 230, Slack: 2},
			{ID: 2, Circle: 1 << 40, Tick: 500, Mark: at(10, 48), Shown: 906, Slack: 1},
		},
	}
}

// wrongCircles is circles and their first error.
type wrongCircles struct {
	name string
	c    api.Circles
	e    api.Errno
}

type change struct {
	name string
	e    api.Errno
	do   func(c *api.Circles)
}

// changed returns circles that have been changed.
func changed(l []change) []wrongCircles {
	var out []wrongCircles
	for _, x := range l {
		c := three()
		x.do(&c)
		out = append(out, wrongCircles{x.name, c, x.e})
	}
	return out
}

// wrongOnes returns all kinds of wrong circles.
func wrongOnes() []wrongCircles {
	return slices.Concat(changed(wrongOfCircles()), changed(wrongOfChecks()), changed(doublyWrong()), eachNumber())
}

func wrongOfCircles() []change {
	return []change{
		{"13 circles", api.ErrLimit, func(c *api.Circles) { c.Circles = manyCircles(13) }},
		{"13 circles, no checks", api.ErrLimit, func(c *api.Circles) { c.Circles, c.Checks = manyCircles(13), nil }},
		{"From after To", api.ErrArg, func(c *api.Circles) { c.Circles[1].From, c.Checks = 1001, nil }},
		{"From just after To", api.ErrArg, func(c *api.Circles) { c.Circles[2].To, c.Checks = 499, nil }},
		{"From after To, and checks", api.ErrArg, func(c *api.Circles) { c.Circles[2].To = 499 }},
		{"no span of zeros", api.ErrArg, func(c *api.Circles) { c.Circles[1].Zero = span(5, 4) }},
		{"no span of zeros at the end", api.ErrArg, func(c *api.Circles) { c.Circles[0].Zero = span(300, -300) }},
		{"same circle twice", api.ErrTwice, func(c *api.Circles) { c.Circles[2] = c.Circles[1] }},
		{"same ID of circles", api.ErrTwice, func(c *api.Circles) { c.Circles[2].ID = 5 }},
		{"same ID as the one before", api.ErrTwice, func(c *api.Circles) { c.Circles[1].ID = 5 }},
	}
}

func wrongOfChecks() []change {
	return []change{
		{"61 checks", api.ErrLimit, func(c *api.Circles) { c.Checks = manyChecks(61) }},
		{"61 checks, no circles", api.ErrLimit, func(c *api.Circles) { c.Circles, c.Checks = nil, manyChecks(61) }},
		{"no such circle", api.ErrNone, func(c *api.Circles) { c.Checks[1].Circle = 6 }},
		{"circle 0", api.ErrNone, func(c *api.Circles) { c.Checks[0].Circle = 0 }},
		{"circle -1", api.ErrNone, func(c *api.Circles) { c.Checks[3].Circle = -1 }},
		{"circle far off", api.ErrNone, func(c *api.Circles) { c.Checks[3].Circle = math.MinInt }},
		{"no circles", api.ErrNone, func(c *api.Circles) { c.Circles = nil }},
		{"mark at the circle", api.ErrArg, func(c *api.Circles) { c.Checks[0].Mark = at(10, 10) }},
		{"mark at the last circle", api.ErrArg, func(c *api.Circles) { c.Checks[3].Mark = at(10, 10) }},
		{"before the circle", api.ErrArg, func(c *api.Circles) { c.Checks[1].Tick = 9 }},
		{"after the circle", api.ErrArg, func(c *api.Circles) { c.Checks[0].Tick = 1001 }},
		{"after the season", api.ErrArg, func(c *api.Circles) { c.Checks[1].Tick++ }},
		{"before the minute", api.ErrArg, func(c *api.Circles) { c.Checks[3].Tick-- }},
		{"at -1", api.ErrArg, func(c *api.Circles) { c.Checks[2].Tick = -1 }},
		{"long after", api.ErrArg, func(c *api.Circles) { c.Checks[2].Tick = math.MaxInt }},
		{"long before", api.ErrArg, func(c *api.Circles) { c.Checks[2].Tick = math.MinInt }},
		{"same check twice", api.ErrTwice, func(c *api.Circles) { c.Checks[2] = c.Checks[0] }},
		{"same ID of checks", api.ErrTwice, func(c *api.Circles) { c.Checks[3].ID = 1 << 40 }},
		{"same ID as the last one", api.ErrTwice, func(c *api.Circles) { c.Checks[3].ID = 7 }},
	}
}

// doublyWrong returns circles with several errors, to tell which one comes first.
func doublyWrong() []change {
	same := api.Circle{ID: 5, At: at(3, 3)}
	wrong := api.Circle{ID: 9, Drift: 61}
	both := api.Circle{ID: 5, Drift: -1}
	twice := api.Check{ID: 1 << 40, Circle: 5, Tick: 20, Mark: at(3, 3), Slack: 1}
	bad := api.Check{ID: 8, Circle: 5, Tick: 20, Mark: at(3, 3), Slack: 0}
	none := api.Check{ID: 8, Circle: 4, Tick: 20, Mark: at(3, 3), Slack: 1}
	late := api.Check{ID: 8, Circle: 5, Tick: 9, Mark: at(3, 3), Slack: 1}
	return []change{
		{"too many circles, a wrong one first", api.ErrLimit, func(c *api.Circles) { c.Circles = manyCircles(13); c.Circles[0] = wrong }},
		{"too many circles, one twice", api.ErrLimit, func(c *api.Circles) { c.Circles = slices.Repeat([]api.Circle{same}, 13) }},
		{"too many checks, a wrong circle", api.ErrLimit, func(c *api.Circles) { c.Checks, c.Circles[0] = manyChecks(61), wrong }},
		{"too many checks, a wrong one first", api.ErrLimit, func(c *api.Circles) { c.Checks = append([]api.Check{bad}, manyChecks(60)...) }},
		{"too many of nothing", api.ErrLimit, func(c *api.Circles) { *c = api.Circles{Circles: make([]api.Circle, 13), Checks: make([]api.Check, 61)} }},
		{"circle twice, then a wrong one", api.ErrTwice, func(c *api.Circles) { c.Circles[1], c.Circles[2] = same, wrong }},
		{"a wrong circle, then one twice", api.ErrArg, func(c *api.Circles) { c.Circles[1], c.Circles[2] = wrong, same }},
		{"a circle that is wrong and twice", api.ErrArg, func(c *api.Circles) { c.Circles[2] = both }},
		{"circle twice, then a wrong check", api.ErrTwice, func(c *api.Circles) { c.Circles[2], c.Checks[0] = same, bad }},
		{"circle twice, then a check of none", api.ErrTwice, func(c *api.Circles) { c.Circles[2], c.Checks[0] = same, none }},
		{"a wrong circle, then a check twice", api.ErrArg, func(c *api.Circles) { c.Circles[2], c.Checks[1] = wrong, twice }},
		{"check twice, then a wrong one", api.ErrTwice, func(c *api.Circles) { c.Checks[1], c.Checks[2] = twice, bad }},
		{"check twice, then one of none", api.ErrTwice, func(c *api.Circles) { c.Checks[1], c.Checks[2] = twice, none }},
		{"a wrong check, then one of none", api.ErrArg, func(c *api.Circles) { c.Checks[1], c.Checks[2] = bad, none }},
		{"a check of none, then a wrong one", api.ErrNone, func(c *api.Circles) { c.Checks[1], c.Checks[2] = none, bad }},
		{"a check of none, then a late one", api.ErrNone, func(c *api.Circles) { c.Checks[1], c.Checks[2] = none, late }},
		{"a late check, then one of none", api.ErrArg, func(c *api.Circles) { c.Checks[1], c.Checks[2] = late, none }},
		{"a late check, then one twice", api.ErrArg, func(c *api.Circles) { c.Checks[1], c.Checks[2] = late, twice }},
		{"a check that is wrong, and of none", api.ErrArg, func(c *api.Circles) { c.Checks[1] = none; c.Checks[1].Shown = 3600 }},
		{"a check that is of none, and late", api.ErrNone, func(c *api.Circles) { c.Checks[1] = none; c.Checks[1].Tick = 1<<20 + 1 }},
		{"a check that is of none, and twice", api.ErrNone, func(c *api.Circles) { c.Checks[1] = none; c.Checks[1].ID = 1 << 40 }},
		{"a check that is late, and twice", api.ErrArg, func(c *api.Circles) { c.Checks[1] = late; c.Checks[1].ID = 1 << 40 }},
		{"a check that is wrong, and twice", api.ErrArg, func(c *api.Circles) { c.Checks[1] = bad; c.Checks[1].ID = 1 << 40 }},
		{"a check at the circle, and twice", api.ErrArg, func(c *api.Circles) { c.Checks[2].ID, c.Checks[2].Mark = 1<<40, at(10, 10) }},
	}
}

// eachNumber returns circles in which one number is beyond its bounds.
func eachNumber() []wrongCircles {
	var out []wrongCircles
	for _, x := range []struct {
		name     string
		min, max int
		set      func(c *api.Circles, n int)
	}{
		{"circle's ID", 1, 1 << 40, func(c *api.Circles, n int) { c.Circles[0].ID = n }},
		{"circle's X", 0, 48, func(c *api.Circles, n int) { c.Circles[1].At.X = n }},
		{"circle's Y", 0, 48, func(c *api.Circles, n int) { c.Circles[2].At.Y = n }},
		{"From", 0, 1 << 20, func(c *api.Circles, n int) { c.Circles[0].From = n }},
		{"To", 0, 1 << 20, func(c *api.Circles, n int) { c.Circles[0].To = n }},
		{"Zero.Lo", -300, 300, func(c *api.Circles, n int) { c.Circles[0].Zero.Lo = n }},
		{"Zero.Hi", -300, 300, func(c *api.Circles, n int) { c.Circles[0].Zero.Hi = n }},
		{"Drift", 0, 60, func(c *api.Circles, n int) { c.Circles[1].Drift = n }},
		{"check's ID", 1, 1 << 40, func(c *api.Circles, n int) { c.Checks[1].ID = n }},
		{"mark's X", 0, 48, func(c *api.Circles, n int) { c.Checks[3].Mark.X = n }},
		{"mark's Y", 0, 48, func(c *api.Circles, n int) { c.Checks[2].Mark.Y = n }},
		{"Shown", 0, 3599, func(c *api.Circles, n int) { c.Checks[0].Shown = n }},
		{"Slack", 1, 100, func(c *api.Circles, n int) { c.Checks[3].Slack = n }},
	} {
		for _, n := range []int{x.min - 1, x.max + 1, math.MinInt, math.MaxInt} {
			c := three()
			x.set(&c, n)
			out = append(out, wrongCircles{x.name, c, api.ErrArg})
		}
	}
	for _, x := range slices.Clone(out) {
		// What is wrong with a circle is so also if there are no checks, which could be wrong because of it.
		if l := (api.Circles{Circles: x.c.Circles}); !slices.Equal(l.Circles, three().Circles) {
			out = append(out, wrongCircles{x.name + ", no checks", l, x.e})
		}
	}
	return out
}

// manyCircles returns so many right circles.
func manyCircles(n int) []api.Circle {
	var out []api.Circle
	for i := range n {
		out = append(out, api.Circle{ID: 1 + (i*5)%13, At: at(i, 2*i), To: 1000 + i, Zero: span(-i, i), Drift: i})
	}
	return out
}

// manyChecks returns so many right checks of the circle 1 of the examples, which agree.
func manyChecks(n int) []api.Check {
	var out []api.Check
	for i := range n {
		out = append(out, api.Check{ID: 1 + (i*7)%61, Circle: 1, Tick: i, Mark: at(20, 15), Shown: 225 + i%3, Slack: 3 + i%5})
	}
	return out
}
