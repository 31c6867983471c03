package circle

import (
	"cmp"
	"slices"

	"firetower/api"
)

// hour is for how many minutes a circle's Drift is told.
const hour = 60

// thing is the beginning of a circle, whose check has only the ID 0 and a Tick, or a check; and the zeros that it allows at its Tick.
type thing struct {
	api.Check
	zeros api.Span
	none  bool // it allows no zero
}

// dial is a circle with its things, by their numbers.
type dial struct {
	api.Circle
	things []thing
}

// dialOf returns a circle with its things, and whether there is one.
func dialOf(c api.Circles, circle int) (dial, bool) {
	x, is := circleOf(c.Circles, circle)
	if !is {
		return dial{}, false
	}
	d := dial{x, []thing{{Check: api.Check{Tick: x.From}, zeros: x.Zero}}}
	for _, k := range c.Checks {
		if k.Circle == circle {
			zeros, some := allowed(x.At, k)
			d.things = append(d.things, thing{k, zeros, !some})
		}
	}
	slices.SortFunc(d.things, func(a, b thing) int { return cmp.Compare(a.ID, b.ID) })
	return d, true
}

// allowed returns the zeros with which a check can be, and whether there are any.
func allowed(at api.Place, k api.Check) (api.Span, bool) {
	b, _ := bearingOf(at, k.Mark)
	// Of all turns this is the only one in which zeros of the readings can lie.
	lo := turn(k.Shown-k.Slack-b.down+api.Divisions/2) - api.Divisions/2
	hi := lo + 2*k.Slack - (b.up - b.down)
	s := api.Span{Lo: greatest(lo, -api.MaxZero), Hi: least(hi, api.MaxZero)}
	if s.Lo > s.Hi {
		return api.Span{}, false
	}
	return s, true
}

// Alone returns the zeros that a check by itself allows at its minute.
func Alone(c api.Circles, id int) (api.Span, api.Errno) {
	if e := Check(c); e != api.OK {
		return api.Span{}, e
	}
	k, is := checkOf(c.Checks, id)
	if !is {
		return api.Span{}, api.ErrNone
	}
	by, _ := circleOf(c.Circles, k.Circle)
	s, some := allowed(by.At, k)
	if !some {
		return api.Span{}, api.ErrClash
	}
	return s, api.OK
}

// far returns by how much the zero can differ at two minutes.
func (d dial) far(s, t int) int { return (d.Drift*greatest(s-t, t-s) + hour - 1) / hour }

// low returns the least zero at a minute with one thing alone; it can be beyond all zeros.
func (d dial) low(x thing, tick int) int { return x.zeros.Lo - d.far(x.Tick, tick) }

// high returns the greatest zero at a minute with one thing alone; it can be beyond all zeros.
func (d dial) high(x thing, tick int) int { return x.zeros.Hi + d.far(x.Tick, tick) }

// span returns the least and the greatest zero at a minute, if nothing contradicts anything.
func (d dial) span(tick int) api.Span {
	var lows, highs []int
	for _, x := range d.things {
		lows, highs = append(lows, d.low(x, tick)), append(highs, d.high(x, tick))
	}
	return api.Span{Lo: greatest(-api.MaxZero, lows...), Hi: least(api.MaxZero, highs...)}
}

// dialAt returns a circle at a minute at which it has zeros; the circles have been checked.
func dialAt(c api.Circles, circle, tick int) (dial, api.Errno) {
	d, is := dialOf(c, circle)
	if !is {
		return dial{}, api.ErrNone
	}
	if !within(tick, d.From, d.To) {
		return dial{}, api.ErrArg
	}
	if d.contradicted() {
		return dial{}, api.ErrClash
	}
	return d, api.OK
}

// Zero returns the least and the greatest zero of a circle at a minute.
func Zero(c api.Circles, circle, tick int) (api.Span, api.Errno) {
	if e := Check(c); e != api.OK {
		return api.Span{}, e
	}
	d, e := dialAt(c, circle, tick)
	if e != api.OK {
		return api.Span{}, e
	}
	return d.span(tick), api.OK
}

// Rests returns the checks on which the least and the greatest zero rest.
func Rests(c api.Circles, circle, tick int) (int, int, api.Errno) {
	if e := Check(c); e != api.OK {
		return 0, 0, e
	}
	d, e := dialAt(c, circle, tick)
	if e != api.OK {
		return 0, 0, e
	}
	z := d.span(tick)
	lo := d.rest(z.Lo, -api.MaxZero, func(x thing) int { return d.low(x, tick) })
	hi := d.rest(z.Hi, api.MaxZero, func(x thing) int { return d.high(x, tick) })
	return lo, hi, api.OK
}

// rest returns the number of the first thing that alone bounds the zero by as much as all do; the last zero that there is rests on none.
func (d dial) rest(bound, last int, alone func(x thing) int) int {
	for _, x := range d.things {
		if bound != last && alone(x) == bound {
			return x.ID
		}
	}
	return 0
}
