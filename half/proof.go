package half

import "firetower/api"

// Best returns the greatest value of a form, with a proof.
func Best(l []api.Half, f api.Form) (api.Bound, api.Errno) {
	if e := checkForm(l, f); e != api.OK {
		return api.Bound{}, e
	}
	at := corners(l)
	if len(at) == 0 {
		return api.Bound{}, api.ErrClash
	}
	out := highest(f, at)
	w := withSides(l)
	// Two half-planes suffice: of those in whose edges the corner lies, two have directions between which that of the form lies.
	for i, j := range pairs(len(w)) {
		t := balance(w[i], w[j], api.Half{A: -f.X, B: -f.Y})
		if t[2] > 0 && fraction(t[0]*w[i].C+t[1]*w[j].C, t[2]) == out.Value {
			out.Scale = t[2]
			out.Uses = usesOf(t, numberOf(l, i), numberOf(l, j))
			break
		}
	}
	return out, api.OK
}

// checkForm returns the first error of a system, and then of a form.
func checkForm(l []api.Half, f api.Form) api.Errno {
	if e := Check(l); e != api.OK {
		return e
	}
	if !validForm(f) {
		return api.ErrArg
	}
	return api.OK
}

// highest returns the greatest value of a form at some corners, and the first corner that attains it.
func highest(f api.Form, l []api.Corner) api.Bound {
	var out api.Bound
	for i, p := range l {
		if v, _ := Value(f, p); i == 0 || Less(v, out.Value) > 0 {
			out = api.Bound{Value: v, At: p}
		}
	}
	return out
}

// usesOf returns the uses of half-planes by their numbers, but not of those that are never added.
func usesOf(t triple, numbers ...int) []api.Use {
	var out []api.Use
	for i, n := range numbers {
		if t[i] > 0 {
			out = append(out, api.Use{Half: n, Times: t[i]})
		}
	}
	return out
}

// CheckBest returns OK if a greatest value is proved.
func CheckBest(l []api.Half, f api.Form, b api.Bound) api.Errno {
	if e := checkForm(l, f); e != api.OK {
		return e
	}
	if !limits(l, f, b) || !attains(l, f, b) {
		return api.ErrProof
	}
	return api.OK
}

// limits reports whether the uses of a bound prove that no value of a form is greater than its Value.
func limits(l []api.Half, f api.Form, b api.Bound) bool {
	sum, ok := sumOf(l, b.Uses)
	if !ok || b.Scale < 1 || b.Scale > api.MaxTimes || !validFrac(b.Value) {
		return false
	}
	return sum.A == b.Scale*f.X && sum.B == b.Scale*f.Y && sum.C*b.Value.Den == b.Scale*b.Value.Num
}

// attains reports whether the corner of a bound lies in the polygon of a system, and has its Value.
func attains(l []api.Half, f api.Form, b api.Bound) bool {
	if _, ok := Allows(l, b.At); !ok {
		return false
	}
	v, e := Value(f, b.At)
	return e == api.OK && v == b.Value
}

// sumOf returns the sums of A, of B and of C of uses, and whether the uses are formed.
func sumOf(l []api.Half, uses []api.Use) (api.Half, bool) {
	if len(uses) > api.MaxUses {
		return api.Half{}, false
	}
	var sum api.Half
	for i, u := range uses {
		h, ok := numbered(l, u.Half)
		if !ok || u.Times < 1 || u.Times > api.MaxTimes || used(uses[:i], u.Half) {
			return api.Half{}, false
		}
		sum.A += u.Times * h.A
		sum.B += u.Times * h.B
		sum.C += u.Times * h.C
	}
	return sum, true
}

// numbered returns the half-plane of a system, or the side of the map, that has a number.
func numbered(l []api.Half, n int) (api.Half, bool) {
	switch {
	case n >= 0 && n < len(l):
		return l[n], true
	case n >= api.North && n <= api.West:
		return sides()[api.West-n], true
	}
	return api.Half{}, false
}

// used reports whether uses have a half-plane.
func used(uses []api.Use, n int) bool {
	for _, u := range uses {
		if u.Half == n {
			return true
		}
	}
	return false
}

// Empty returns a proof that a system has no point.
func Empty(l []api.Half) ([]api.Use, bool, api.Errno) {
	if e := Check(l); e != api.OK {
		return nil, false, e
	}
	if len(corners(l)) > 0 {
		return nil, false, api.OK
	}
	w := withSides(l)
	var out []api.Use
	// Of half-planes without a common point some three have none (Helly). Two of them with parallel edges are found with any third one, which is then added 0 times.
search:
	for j, k := range pairs(len(w)) {
		for i := range j {
			t := balance(w[i], w[j], w[k])
			if t[0]*w[i].C+t[1]*w[j].C+t[2]*w[k].C < 0 {
				out = usesOf(t, numberOf(l, i), numberOf(l, j), numberOf(l, k))
				break search
			}
		}
	}
	return out, true, api.OK
}

// CheckEmpty returns OK if it is proved that a system has no point.
func CheckEmpty(l []api.Half, uses []api.Use) api.Errno {
	if e := Check(l); e != api.OK {
		return e
	}
	sum, ok := sumOf(l, uses)
	if !ok || sum.A != 0 || sum.B != 0 || sum.C >= 0 {
		return api.ErrProof
	}
	return api.OK
}
