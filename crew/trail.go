package crew

import (
	"cmp"
	"iter"
	"slices"

	"firetower/api"
)

// byRows compares places by Y, and then by X.
func byRows(a, b api.Place) int { return cmp.Or(cmp.Compare(a.Y, b.Y), cmp.Compare(a.X, b.X)) }

// ends goes through trails from both of their ends: A of what it yields is the end at which the trail is entered.
func ends(l []api.Trail) iter.Seq[api.Trail] {
	return func(yield func(api.Trail) bool) {
		for _, t := range l {
			if !yield(t) {
				return
			}
			t.A, t.B = t.B, t.A
			if !yield(t) {
				return
			}
		}
	}
}

// places returns the places of trails from a place.
func places(l []api.Trail, from api.Place) []api.Place {
	out := []api.Place{from}
	for t := range ends(l) {
		out = append(out, t.A)
	}
	slices.SortFunc(out, byRows)
	return slices.Compact(out)
}

// Enter returns the first minute from a minute on at which a trail can be entered.
func Enter(t api.Trail, tick int) (int, bool) {
	if !takesTime(t) || checkClosed(t.Closed) != api.OK {
		return 0, false
	}
	for _, s := range t.Closed {
		if within(tick, s.Lo, s.Hi) {
			tick = s.Hi + 1
		}
	}
	return tick, true
}

// passed returns when somebody who is at an end of a right trail at a minute is surely at the other one, and when they enter it for that.
func passed(t api.Trail, tick int) (there, enter int) {
	enter, _ = Enter(t, tick)
	return enter + t.Slow, enter
}

// Close returns the trails with one that is closed in a span, too.
func Close(l []api.Trail, id int, s api.Span) ([]api.Trail, api.Errno) {
	if e := Check(l); e != api.OK {
		return nil, e
	}
	i := slices.IndexFunc(l, func(t api.Trail) bool { return t.ID == id })
	if i < 0 {
		return nil, api.ErrNone
	}
	if !areTicks(s) {
		return nil, api.ErrArg
	}
	closed := united(append(slices.Clone(l[i].Closed), s))
	if len(closed) > api.MaxClosed {
		return nil, api.ErrLimit
	}
	out := copied(l)
	out[i].Closed = closed
	return out, api.OK
}

// united returns the fewest spans that have all minutes of some spans, which it puts in order.
func united(l []api.Span) []api.Span {
	slices.SortFunc(l, func(a, b api.Span) int { return cmp.Compare(a.Lo, b.Lo) })
	out := []api.Span{l[0]}
	for _, s := range l[1:] {
		// Spans between which there is no minute are one.
		if last := &out[len(out)-1]; s.Lo <= last.Hi+1 {
			last.Hi = max(last.Hi, s.Hi)
		} else {
			out = append(out, s)
		}
	}
	return out
}

// copied returns trails that share no memory with others.
func copied(l []api.Trail) []api.Trail {
	out := slices.Clone(l)
	for i, t := range out {
		out[i].Closed = slices.Clone(t.Closed)
	}
	return out
}
