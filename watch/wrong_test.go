package watch_test

import (
	"math"
	"slices"
	"strings"

	"firetower/api"
)

// changed is something wrong, and its error.
type changed[T any] struct {
	name string
	e    api.Errno
	do   func(x *T)
}

// rich returns a watch with lines of all kinds, and orders with conditions of all kinds.
func rich() api.Watch {
	return api.Watch{
		Lines: []api.Line{
			{Kind: api.LiWatch, Tower: "north", Person: "ann", From: 1, To: 10, Every: 2, Except: []int{5, 7}},
			{Kind: api.LiRest, Person: "ben", From: 6, To: 6, Every: 1},
			{Kind: api.LiCancel, Tower: "south", From: 7, To: 9, Every: 1, Except: []int{8}},
			{Kind: api.LiSwap, Person: "ann", Other: "ben", From: 0, To: 400, Every: 400},
			{Kind: api.LiWatch, Tower: "south", Person: "ann", From: 1, To: 3, Every: 1},
		},
		Orders: []api.Order{
			{Name: "send", When: both(api.CoAnd, is(api.FaCell, api.OpMost, 9), is(api.FaSeen, api.OpLeast, 2))},
			{Name: "look", Rank: 1, When: not(both(api.CoOr, is(api.FaSeen, api.OpMore, 1), is(api.FaHour, api.OpLess, 6)))},
			{Name: "never", Rank: 100, When: is(api.FaFree, api.OpLess, 0)},
		},
	}
}

// line returns a change of the line with an index.
func line(i int, do func(l *api.Line)) func(w *api.Watch) {
	return func(w *api.Watch) { do(&w.Lines[i]) }
}

// wrongWatches returns what can be wrong with the rich watch.
func wrongWatches() []changed[api.Watch] {
	out := slices.Concat(wrongLimits(), wrongNames(), wrongDays())
	for _, x := range wrongOrders() {
		out = append(out, changed[api.Watch]{x.name, x.e, func(w *api.Watch) { x.do(&w.Orders) }})
	}
	return out
}

func wrongLimits() []changed[api.Watch] {
	lines := func(n int) []api.Line { return slices.Repeat(rich().Lines[:1], n) }
	orders := func(n int) []api.Order { return slices.Repeat(rich().Orders[:1], n) }
	return []changed[api.Watch]{
		{"60 lines, 30 orders", api.OK, func(w *api.Watch) { w.Lines, w.Orders = lines(60), orders(30) }},
		{"61 lines", api.ErrLimit, func(w *api.Watch) { w.Lines = lines(61) }},
		{"61 lines that are not formed", api.ErrLimit, func(w *api.Watch) { w.Lines = make([]api.Line, 61) }},
		{"31 orders, and a line that is not formed", api.ErrLimit, func(w *api.Watch) { w.Lines[0].Kind, w.Orders = 0, orders(31) }},
		{"no line", api.ErrForm, func(w *api.Watch) { w.Lines[4] = api.Line{} }},
	}
}

func wrongNames() []changed[api.Watch] {
	name := func(s string) func(w *api.Watch) { return line(0, func(l *api.Line) { l.Tower = s }) }
	out := []changed[api.Watch]{
		{"24 bytes", api.OK, name(strings.Repeat("a", 24))}, {"25 bytes", api.ErrForm, name(strings.Repeat("a", 25))}, {"a name with digits", api.OK, name("a09z")}, {"a name that begins as a reserved word", api.OK, name("ona")},
		{"a person twice", api.ErrForm, line(3, func(l *api.Line) { l.Other = "ann" })}, {"a tower as a person", api.OK, line(0, func(l *api.Line) { l.Person = "north" })},
		{"a watch without a tower", api.ErrForm, name("")}, {"a watch without a person", api.ErrForm, line(0, func(l *api.Line) { l.Person = "" })}, {"a watch by two", api.ErrForm, line(0, func(l *api.Line) { l.Other = "ben" })},
		{"a rest of a tower", api.ErrForm, line(1, func(l *api.Line) { l.Tower = "north" })}, {"a rest without a person", api.ErrForm, line(1, func(l *api.Line) { l.Person = "" })}, {"a rest by two", api.ErrForm, line(1, func(l *api.Line) { l.Other = "ann" })},
		{"a cancel without a tower", api.ErrForm, line(2, func(l *api.Line) { l.Tower = "" })}, {"a cancel of a person", api.ErrForm, line(2, func(l *api.Line) { l.Person = "ann" })}, {"a cancel of another", api.ErrForm, line(2, func(l *api.Line) { l.Other = "ann" })},
		{"a swap of a tower", api.ErrForm, line(3, func(l *api.Line) { l.Tower = "north" })}, {"a swap without a person", api.ErrForm, line(3, func(l *api.Line) { l.Person = "" })}, {"a swap without another", api.ErrForm, line(3, func(l *api.Line) { l.Other = "" })},
		{"the other is no name", api.ErrForm, line(3, func(l *api.Line) { l.Other = "on" })}, {"the person is no name", api.ErrForm, line(1, func(l *api.Line) { l.Person = "A" })},
	}
	for _, s := range append([]string{"A", "aB", "0", "9a", "a b", " a", "a ", "a_", "a-b", "a\n", "\x00", "\xc3\xa4", "a#", "a;"}, reservedWords...) {
		out = append(out, changed[api.Watch]{"the name " + s, api.ErrForm, name(s)})
	}
	return out
}

func wrongDays() []changed[api.Watch] {
	days := func(from, to, every int) func(w *api.Watch) {
		return line(1, func(l *api.Line) { l.From, l.To, l.Every = from, to, every })
	}
	except := func(l ...int) func(w *api.Watch) { return line(1, func(x *api.Line) { x.Except = l }) }
	var many []int
	for d := range 21 {
		many = append(many, d*20)
	}
	return []changed[api.Watch]{
		{"all days", api.OK, days(0, 400, 1)}, {"one day", api.OK, days(400, 400, 400)}, {"before 0", api.ErrForm, days(-1, 4, 1)}, {"backwards", api.ErrForm, days(4, 3, 1)}, {"up to 401", api.ErrForm, days(4, 401, 1)}, {"on 401", api.ErrForm, days(401, 401, 1)},
		{"the least numbers", api.ErrForm, days(math.MinInt, math.MinInt, math.MinInt)}, {"the greatest numbers", api.ErrForm, days(math.MinInt, math.MaxInt, math.MaxInt)},
		{"every 0", api.ErrForm, days(4, 4, 0)}, {"every -1", api.ErrForm, days(4, 5, -1)}, {"every 401", api.ErrForm, days(4, 5, 401)},
		{"except other days", api.OK, except(0, 1, 400)}, {"except -1", api.ErrForm, except(-1, 6)}, {"except 401", api.ErrForm, except(6, 401)}, {"except a day twice", api.ErrForm, except(3, 6, 6)}, {"except days backwards", api.ErrForm, except(6, 3)},
		{"except 20", api.OK, except(many[:20]...)}, {"except 21", api.ErrForm, except(many...)},
		{"no kind", api.ErrForm, line(0, func(l *api.Line) { l.Kind = 0 })}, {"kind 5", api.ErrForm, line(0, func(l *api.Line) { l.Kind = 5 })}, {"kind -1", api.ErrForm, line(0, func(l *api.Line) { l.Kind = -1 })}, {"another kind", api.ErrForm, line(0, func(l *api.Line) { l.Kind = api.LiRest })},
	}
}

// wrongOrders returns what can be wrong with the rich watch's orders.
func wrongOrders() []changed[[]api.Order] {
	order := func(do func(o *api.Order)) func(l *[]api.Order) {
		return func(l *[]api.Order) { do(&(*l)[1]) }
	}
	out := []changed[[]api.Order]{
		{"31 orders", api.ErrLimit, func(l *[]api.Order) { *l = slices.Repeat((*l)[:1], 31) }},
		{"31 orders that are not formed", api.ErrLimit, func(l *[]api.Order) { *l = make([]api.Order, 31) }},
		{"no order", api.ErrForm, func(l *[]api.Order) { *l = make([]api.Order, 1) }},
		{"no name", api.ErrForm, order(func(o *api.Order) { o.Name = "" })}, {"a reserved name", api.ErrForm, order(func(o *api.Order) { o.Name = "rank" })}, {"a long name", api.ErrForm, order(func(o *api.Order) { o.Name = strings.Repeat("a", 25) })}, {"a name twice", api.OK, order(func(o *api.Order) { o.Name = "send" })},
		{"rank -1", api.ErrForm, order(func(o *api.Order) { o.Rank = -1 })}, {"rank 101", api.ErrForm, order(func(o *api.Order) { o.Rank = 101 })}, {"rank 100", api.OK, order(func(o *api.Order) { o.Rank = 100 })},
	}
	for _, x := range wrongConds() {
		out = append(out, changed[[]api.Order]{x.name, x.e, order(func(o *api.Order) { x.do(&o.When) })})
	}
	return out
}

// endless returns a condition that is its own kid, or its own kids.
func endless(kind int) api.Cond {
	kids := make([]api.Cond, map[int]int{api.CoNot: 1, api.CoAnd: 2, api.CoOr: 2}[kind])
	for i := range kids {
		kids[i] = api.Cond{Kind: kind, Kids: kids}
	}
	return kids[0]
}

// nots returns a condition below so many CoNot.
func nots(n int, c api.Cond) api.Cond {
	for range n {
		c = not(c)
	}
	return c
}

// wrongConds returns conditions most of which are not formed.
func wrongConds() []changed[api.Cond] {
	leaf := is(api.FaAge, api.OpMore, 3)
	leaves := func(n int) api.Cond { return joined(api.CoAnd, slices.Repeat([]api.Cond{leaf}, n)) }
	chain := func(n int) api.Cond {
		out := leaf
		for range n {
			out = both(api.CoOr, out, leaf)
		}
		return out
	}
	var out []changed[api.Cond]
	add := func(name string, e api.Errno, c api.Cond) {
		out = append(out, changed[api.Cond]{name, e, func(x *api.Cond) { *x = c }})
	}
	right := func(name string, c api.Cond) { add(name, api.OK, c) }
	wrong := func(name string, c api.Cond) { add(name, api.ErrForm, c) }
	right("least numbers", is(0, 1, 0))
	right("greatest numbers", is(4, 6, 10000))
	wrong("no condition", api.Cond{})
	wrong("kind 5", api.Cond{Kind: 5, Kids: []api.Cond{leaf, leaf}})
	wrong("kind -1", api.Cond{Kind: -1, Kids: []api.Cond{leaf}})
	for _, c := range []api.Cond{is(-1, 1, 1), is(5, 1, 1), is(1, 0, 1), is(1, 7, 1), is(1, -1, 1), is(1, 1, -1), is(1, 1, 10001), is(math.MinInt, math.MinInt, math.MinInt), is(math.MaxInt, math.MaxInt, math.MaxInt)} {
		wrong("a number", c)
		wrong("a number below", both(api.CoAnd, leaf, not(c)))
	}
	wrong("a comparison with a kid", api.Cond{Kind: api.CoIs, Fact: 1, Op: 1, Kids: []api.Cond{leaf}})
	right("a comparison with no kids", api.Cond{Kind: api.CoIs, Fact: 1, Op: 1, Kids: []api.Cond{}})
	for kind, n := range []int{api.CoNot: 1, api.CoAnd: 2, api.CoOr: 2} {
		for kids := range 4 {
			if c := (api.Cond{Kind: kind, Kids: slices.Repeat([]api.Cond{leaf}, kids)}); n > 0 && kids != n {
				wrong("kids", c)
				wrong("kids below", not(c))
			} else if n > 0 {
				right("kids", c)
				c.Fact = 1
				wrong("a fact", c)
				c.Fact, c.Op = 0, 1
				wrong("an operator", c)
				c.Op, c.N = 0, 1
				wrong("a number that it does not have", c)
			}
		}
		if n > 0 {
			wrong("endless", endless(kind))
			wrong("endless below", both(api.CoOr, leaf, endless(kind)))
		}
	}
	wrong("the second kid", both(api.CoOr, leaf, api.Cond{}))
	right("11 nots", nots(11, leaf))
	wrong("12 nots", nots(12, leaf))
	right("a chain of 11", chain(11))
	wrong("a chain of 12", chain(12))
	wrong("deep on the right", both(api.CoAnd, leaf, nots(11, leaf)))
	right("59 nodes", leaves(30))
	right("60 nodes", not(leaves(30)))
	wrong("61 nodes", leaves(31))
	wrong("61 nodes with nots", not(not(leaves(30))))
	return out
}
