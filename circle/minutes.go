package circle

import "firetower/api"

// dialIn returns a circle in minutes in all of which it has zeros; the circles have been checked.
func dialIn(c api.Circles, circle int, ticks api.Span) (dial, api.Errno) {
	d, is := dialOf(c, circle)
	if !is {
		return dial{}, api.ErrNone
	}
	if ticks.Lo > ticks.Hi || ticks.Lo < d.From || ticks.Hi > d.To {
		return dial{}, api.ErrArg
	}
	if ticks.Hi-ticks.Lo >= api.MaxLooked {
		return dial{}, api.ErrLimit
	}
	if d.contradicted() {
		return dial{}, api.ErrClash
	}
	return d, api.OK
}

// spans returns the least and the greatest zeros of a circle in some minutes.
func spans(c api.Circles, circle int, ticks api.Span) ([]api.Span, api.Errno) {
	if e := Check(c); e != api.OK {
		return nil, e
	}
	d, e := dialIn(c, circle, ticks)
	if e != api.OK {
		return nil, e
	}
	var out []api.Span
	for t := ticks.Lo; t <= ticks.Hi; t++ {
		out = append(out, d.span(t))
	}
	return out, api.OK
}

// Lowest returns the least zeros of a circle in some minutes.
func Lowest(c api.Circles, circle int, ticks api.Span) (api.Zeros, api.Errno) {
	return ends(c, circle, ticks, func(s api.Span) int { return s.Lo })
}

// Highest returns the greatest zeros of a circle in some minutes.
func Highest(c api.Circles, circle int, ticks api.Span) (api.Zeros, api.Errno) {
	return ends(c, circle, ticks, func(s api.Span) int { return s.Hi })
}

// ends returns one end of the spans of a circle's zeros in some minutes.
func ends(c api.Circles, circle int, ticks api.Span, end func(s api.Span) int) (api.Zeros, api.Errno) {
	l, e := spans(c, circle, ticks)
	if e != api.OK {
		return api.Zeros{}, e
	}
	out := api.Zeros{Circle: circle, Tick: ticks.Lo}
	for _, s := range l {
		out.Zero = append(out.Zero, end(s))
	}
	return out, api.OK
}

// Fits reports whether a circle can have had some zeros, and otherwise the first minute at which it cannot.
func Fits(c api.Circles, z api.Zeros) (int, bool) {
	if Check(c) != api.OK {
		return -1, false
	}
	d, is := dialOf(c, z.Circle)
	n := len(z.Zero)
	// The last minute is not added up: it can be beyond an int.
	if !is || !within(n, 1, api.MaxLooked) || !within(z.Tick, d.From, d.To-(n-1)) {
		return -1, false
	}
	if d.contradicted() {
		return z.Tick, false
	}
	for i := range z.Zero {
		if !d.fits(z, i) {
			return z.Tick + i, false
		}
	}
	return -1, true
}

// fits reports whether one of some zeros can be when those before it can be.
func (d dial) fits(z api.Zeros, i int) bool {
	zero, tick := z.Zero[i], z.Tick+i
	// Zeros that differ by little enough from each other, and from each thing, are possible: nothing has to be looked for between them.
	if s := d.span(tick); !within(zero, s.Lo, s.Hi) {
		return false
	}
	for k, other := range z.Zero[:i] {
		if greatest(zero-other, other-zero) > d.far(z.Tick+k, tick) {
			return false
		}
	}
	return true
}
