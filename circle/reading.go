package circle

import (
	"slices"

	"firetower/api"
)

// Shows returns what a circle with a zero shows of a place, as the readings that can be, without turns.
func Shows(at, p api.Place, zero, slack int) (api.Span, bool) {
	b, ok := bearingOf(at, p)
	if !ok || !validZero(zero) || !validSlack(slack) {
		return api.Span{}, false
	}
	return api.Span{Lo: b.up + zero - slack, Hi: b.down + zero + slack}, true
}

// dialFor returns the circle of a reading.
func dialFor(c api.Circles, r api.Reading) (dial, api.Errno) {
	if e := Check(c); e != api.OK {
		return dial{}, e
	}
	if !validDivision(r.Shown) || !validSlack(r.Slack) {
		return dial{}, api.ErrArg
	}
	return dialAt(c, r.Circle, r.Tick)
}

// opening returns how wide the wedge of a reading is if the zero lies in a span.
func opening(r api.Reading, zeros api.Span) int { return 2*r.Slack + zeros.Hi - zeros.Lo }

// zerosFor returns the circle of a reading, and the zeros that it can have had, if they leave a wedge that is not too wide.
func zerosFor(c api.Circles, r api.Reading) (dial, api.Span, api.Errno) {
	d, e := dialFor(c, r)
	if e != api.OK {
		return dial{}, api.Span{}, e
	}
	z := d.span(r.Tick)
	if opening(r, z) > quarter {
		return dial{}, api.Span{}, api.ErrWide
	}
	return d, z, api.OK
}

// Wedge returns the wedge in which something lies of which there is a reading.
func Wedge(c api.Circles, r api.Reading) (api.Wedge, api.Errno) {
	_, z, e := zerosFor(c, r)
	if e != api.OK {
		return api.Wedge{}, e
	}
	return api.Wedge{From: turn(r.Shown - r.Slack - z.Hi), To: turn(r.Shown + r.Slack - z.Lo)}, api.OK
}

// Needed returns the checks without each of which a wedge would be another one.
func Needed(c api.Circles, r api.Reading) ([]int, api.Errno) {
	d, z, e := zerosFor(c, r)
	if e != api.OK {
		return nil, e
	}
	var out []int
	for i, x := range d.things {
		less := dial{d.Circle, slices.Delete(slices.Clone(d.things), i, i+1)}
		// The beginning is no check. With other zeros the wedge is another one, or too wide.
		if x.ID != 0 && less.span(r.Tick) != z {
			out = append(out, x.ID)
		}
	}
	return out, api.OK
}

// Best returns the minute of some minutes at which a further check helps a reading most.
func Best(c api.Circles, r api.Reading, ticks api.Span) (int, api.Errno) {
	d, e := dialFor(c, r)
	if e != api.OK {
		return 0, e
	}
	l, e := spans(c, r.Circle, ticks)
	if e != api.OK {
		return 0, e
	}
	all := d.span(r.Tick)
	best, narrowest := 0, 0
	for i, s := range l {
		tick := ticks.Lo + i
		far := d.far(tick, r.Tick)
		use := greatest(opening(r, known(all, s.Lo, far)), opening(r, known(all, s.Hi, far)))
		if i == 0 || use < narrowest {
			best, narrowest = tick, use
		}
	}
	return best, api.OK
}

// known returns which zeros of a span are left if the zero differs from a number by at most so much.
func known(s api.Span, zero, far int) api.Span {
	return api.Span{Lo: greatest(s.Lo, zero-far), Hi: least(s.Hi, zero+far)}
}
