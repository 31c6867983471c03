package circle

import "firetower/api"

// Opening returns how many divisions lie from the beginning of a wedge to its end.
func Opening(w api.Wedge) int {
	if !validDivision(w.From) || !validDivision(w.To) {
		return -1
	}
	return turn(w.To - w.From)
}

func validWedge(w api.Wedge) bool { return within(Opening(w), 0, quarter) }

// Lies reports whether a place lies in a wedge, seen from another place.
func Lies(w api.Wedge, from, p api.Place) bool {
	b, ok := bearingOf(from, p)
	// A bearing between two divisions lies in a wedge if both do: no wedge is as wide as to have both, but not what is between them.
	return ok && validWedge(w) && turn(b.down-w.From) <= Opening(w) && turn(b.up-w.From) <= Opening(w)
}

// Meet returns the directions that two wedges have in common.
func Meet(a, b api.Wedge) (api.Wedge, bool) {
	if !validWedge(a) || !validWedge(b) {
		return api.Wedge{}, false
	}
	if turn(b.From-a.From) > Opening(a) {
		a, b = b, a
	}
	// What they have in common begins where one of them does: from here on this is b.
	left := Opening(a) - turn(b.From-a.From)
	if left < 0 {
		return api.Wedge{}, false
	}
	return api.Wedge{From: b.From, To: turn(b.From + least(left, Opening(b)))}, true
}

// Widen returns a wedge that reaches some divisions farther on both sides.
func Widen(w api.Wedge, by int) (api.Wedge, bool) {
	// A wedge that is widened by whole turns would look valid, but would not have all that it had.
	if !validWedge(w) || by < 0 || by > (quarter-Opening(w))/2 {
		return api.Wedge{}, false
	}
	return api.Wedge{From: turn(w.From - by), To: turn(w.To + by)}, true
}

// Halves returns the half-planes whose common places are those of a wedge.
func Halves(w api.Wedge, from api.Place) ([2]api.Half, bool) {
	if !validWedge(w) || w.From == w.To || !onMap(from) {
		return [2]api.Half{}, false
	}
	v := Vector(w.To)
	return [2]api.Half{leftOf(Vector(w.From), from), leftOf(api.Place{X: -v.X, Y: -v.Y}, from)}, true
}

// leftOf returns the half-plane to the left of a vector that begins at a place.
func leftOf(v, from api.Place) api.Half {
	return api.Half{A: v.Y, B: -v.X, C: v.Y*from.X - v.X*from.Y}
}
