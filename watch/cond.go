package watch

import "firetower/api"

// areFacts reports whether all numbers are ones that facts can have.
func areFacts(f [api.Facts]int) bool {
	for _, n := range f {
		if !within(n, 0, api.MaxFact) {
			return false
		}
	}
	return true
}

// Holds reports whether a condition holds for facts.
func Holds(c api.Cond, f [api.Facts]int) (bool, api.Errno) {
	if e := checkCond(c); e != api.OK {
		return false, e
	}
	if !areFacts(f) {
		return false, api.ErrArg
	}
	return holds(&c, &f), api.OK
}

// holds reports whether a condition that is formed holds for facts. (Lists of orders ask this very often; so nothing is copied.)
func holds(c *api.Cond, f *[api.Facts]int) bool {
	switch c.Kind {
	case api.CoNot:
		return !holds(&c.Kids[0], f)
	case api.CoAnd:
		return holds(&c.Kids[0], f) && holds(&c.Kids[1], f)
	case api.CoOr:
		return holds(&c.Kids[0], f) || holds(&c.Kids[1], f)
	}
	return compares(f[c.Fact], c.Op, c.N)
}

// compares reports whether a number compares with another one as an operator says.
func compares(a, op, b int) bool {
	switch op {
	case api.OpEqual:
		return a == b
	case api.OpOther:
		return a != b
	case api.OpLess:
		return a < b
	case api.OpMost:
		return a <= b
	case api.OpMore:
		return a > b
	}
	return a >= b
}

// opposites are, for each operator, the one that holds exactly where it does not.
var opposites = [...]int{api.OpEqual: api.OpOther, api.OpOther: api.OpEqual, api.OpLess: api.OpLeast, api.OpLeast: api.OpLess, api.OpMore: api.OpMost, api.OpMost: api.OpMore}

// Inward returns a condition without negation that means the same.
func Inward(c api.Cond) (api.Cond, api.Errno) {
	if e := checkCond(c); e != api.OK {
		return api.Cond{}, e
	}
	return inward(c, false), api.OK
}

// inward returns what means the same as a condition, or as its negation, without negation.
func inward(c api.Cond, negated bool) api.Cond {
	switch {
	case c.Kind == api.CoNot:
		return inward(c.Kids[0], !negated)
	case c.Kind == api.CoIs && negated:
		return api.Cond{Kind: api.CoIs, Fact: c.Fact, Op: opposites[c.Op], N: c.N}
	case c.Kind == api.CoIs:
		return api.Cond{Kind: api.CoIs, Fact: c.Fact, Op: c.Op, N: c.N}
	}
	out := api.Cond{Kind: c.Kind, Kids: []api.Cond{inward(c.Kids[0], negated), inward(c.Kids[1], negated)}}
	if negated && c.Kind == api.CoAnd {
		out.Kind = api.CoOr
	} else if negated {
		out.Kind = api.CoAnd
	}
	return out
}
