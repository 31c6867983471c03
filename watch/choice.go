package watch

import (
	"iter"
	"slices"

	"firetower/api"
)

// choices are, for each fact, the numbers that it is tried with, in increasing order. Between two neighbours of them no comparison of the conditions changes.
type choices [api.Facts][]int

// choicesFor returns the choices for some conditions; ErrCells if there are too many.
func choicesFor(l []api.Cond) (choices, api.Errno) {
	var out choices
	for _, c := range l {
		out.add(c)
	}
	count := 1
	for fact := range out {
		out[fact] = append(out[fact], 0)
		slices.Sort(out[fact])
		out[fact] = slices.Compact(out[fact])
		count *= len(out[fact])
		// Later facts can only make more of it; without this the number could become too great.
		if count > api.MaxChoices {
			return choices{}, api.ErrCells
		}
	}
	return out, api.OK
}

// add adds the numbers with which a condition compares facts, and those behind them.
func (x *choices) add(c api.Cond) {
	if c.Kind == api.CoIs {
		x[c.Fact] = append(x[c.Fact], c.N, min(c.N+1, api.MaxFact))
	}
	for _, kid := range c.Kids {
		x.add(kid)
	}
}

// all yields all choices of facts, in lexicographic order.
func (x choices) all() iter.Seq[[api.Facts]int] {
	return func(yield func([api.Facts]int) bool) {
		var f [api.Facts]int
		var choose func(fact int) bool
		choose = func(fact int) bool {
			if fact == api.Facts {
				return yield(f)
			}
			for _, n := range x[fact] {
				f[fact] = n
				if !choose(fact + 1) {
					return false
				}
			}
			return true
		}
		choose(0)
	}
}

// always reports whether something is so for all choices of facts; if not, it returns the first ones for which it is not.
func (x choices) always(is func(f *[api.Facts]int) bool) ([api.Facts]int, bool) {
	for f := range x.all() {
		if !is(&f) {
			return f, false
		}
	}
	return [api.Facts]int{}, true
}

// Equal reports whether two conditions mean the same, and returns facts for which they do not.
func Equal(a, b api.Cond) ([api.Facts]int, bool, api.Errno) {
	return related(a, b, func(inA, inB bool) bool { return inA == inB })
}

// Implies reports whether a condition holds wherever another one does, and returns facts for which that is not so.
func Implies(a, b api.Cond) ([api.Facts]int, bool, api.Errno) {
	return related(a, b, func(inA, inB bool) bool { return !inA || inB })
}

// related reports whether for all facts it is right whether each of two conditions holds, and returns facts for which it is not.
func related(a, b api.Cond, right func(inA, inB bool) bool) ([api.Facts]int, bool, api.Errno) {
	l := []api.Cond{a, b}
	for _, c := range l {
		if e := checkCond(c); e != api.OK {
			return [api.Facts]int{}, false, e
		}
	}
	x, e := choicesFor(l)
	if e != api.OK {
		return [api.Facts]int{}, false, e
	}
	f, is := x.always(func(f *[api.Facts]int) bool { return right(holds(&a, f), holds(&b, f)) })
	return f, is, api.OK
}
