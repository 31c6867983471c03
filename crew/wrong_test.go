package crew_test

import (
	"math"
	"slices"

	"firetower/api"
)

// changed is something wrong, and its first error.
type changed[T any] struct {
	name string
	e    api.Errno
	do   func(x *T)
}

// each returns a change that is all of some changes.
func each[T any](l ...func(x *T)) func(x *T) {
	return func(x *T) {
		for _, do := range l {
			do(x)
		}
	}
}

// element returns a change of the element with an index.
func element[T any](i int, do func(x *T)) func(l *[]T) {
	return func(l *[]T) { do(&(*l)[i]) }
}

// outside returns numbers that are not from one to another one.
func outside(least, most int) []int {
	return []int{least - 1, most + 1, -most, math.MinInt, math.MaxInt}
}

// manyTrails returns right trails.
func manyTrails(n int) []api.Trail {
	var out []api.Trail
	for i := range n {
		out = append(out, api.Trail{ID: n - i, A: at(i, 0), B: at(0, i+1), Fast: 1, Slow: 2})
	}
	return out
}

// manySpans returns spans as a trail has them, but for their number.
func manySpans(n int) []api.Span {
	var out []api.Span
	for i := range n {
		out = append(out, span(3*i, 3*i+1))
	}
	return out
}

func isIn(b api.Place) func(t *api.Trail) { return func(t *api.Trail) { t.B = b } }

func closedIn(l ...api.Span) func(t *api.Trail) { return func(t *api.Trail) { t.Closed = l } }

// wrongPlaces returns places that are none.
func wrongPlaces() []api.Place {
	var out []api.Place
	for _, n := range outside(0, 48) {
		out = append(out, at(n, 0), at(0, n), at(48, n), at(n, n))
	}
	return out
}

// wrongClosings returns what can be wrong with the spans in which a trail is closed.
func wrongClosings() []changed[api.Trail] {
	out := []changed[api.Trail]{
		{"nine spans", api.ErrLimit, closedIn(manySpans(9)...)},
		{"nine spans that are none", api.ErrLimit, closedIn(make([]api.Span, 9)...)},
		{"no span", api.ErrArg, closedIn(span(5, 4))},
		{"no span behind one", api.ErrArg, closedIn(span(0, 4), span(9, 7))},
		{"spans that meet", api.ErrArg, closedIn(span(3, 5), span(5, 9))},
		{"spans that overlap", api.ErrArg, closedIn(span(3, 8), span(5, 9))},
		{"the same span twice", api.ErrArg, closedIn(span(3, 8), span(3, 8))},
		{"spans in no order", api.ErrArg, closedIn(span(9, 9), span(5, 5))},
		{"the last of three too early", api.ErrArg, closedIn(span(1, 1), span(5, 8), span(3, 3))},
	}
	for _, n := range outside(0, 1<<20) {
		out = append(out,
			changed[api.Trail]{"a minute alone", api.ErrArg, closedIn(span(n, n))},
			changed[api.Trail]{"a span around all", api.ErrArg, closedIn(span(min(n, 0), max(n, 0)))},
			changed[api.Trail]{"behind a right span", api.ErrArg, closedIn(span(0, 9), span(10, n))},
		)
	}
	return out
}

// wrongWalks returns what can be wrong with the minutes that a trail takes.
func wrongWalks() []changed[api.Trail] {
	type change = changed[api.Trail]
	out := []change{{"Fast above Slow", api.ErrArg, func(t *api.Trail) { t.Fast, t.Slow = 6, 5 }}}
	for _, n := range outside(1, 1440) {
		out = append(out,
			change{"Slow", api.ErrArg, func(t *api.Trail) { t.Fast, t.Slow = 1, n }},
			change{"Fast and Slow", api.ErrArg, func(t *api.Trail) { t.Fast, t.Slow = n, n }},
			change{"Fast", api.ErrArg, func(t *api.Trail) { t.Fast, t.Slow = n, 1440 }},
		)
	}
	return out
}

// wrongEnds returns what can be wrong with the ID and the ends of a trail.
func wrongEnds() []changed[api.Trail] {
	type change = changed[api.Trail]
	out := []change{{"one place", api.ErrArg, func(t *api.Trail) { t.A, t.B = at(4, 4), at(4, 4) }}}
	for _, n := range outside(1, 1<<40) {
		out = append(out, change{"ID", api.ErrArg, func(t *api.Trail) { t.ID = n }})
	}
	for _, p := range wrongPlaces() {
		out = append(out, change{"A", api.ErrArg, func(t *api.Trail) { t.A = p }}, change{"B", api.ErrArg, isIn(p)})
	}
	return out
}

// wrongTrails returns what can be wrong with the trails of the example.
func wrongTrails() []changed[[]api.Trail] {
	var out []changed[[]api.Trail]
	for _, x := range slices.Concat(wrongEnds(), wrongWalks(), wrongClosings()) {
		for i := range example() {
			out = append(out, changed[[]api.Trail]{x.name, x.e, element(i, x.do)})
		}
	}
	return append(out, doublyWrongTrails()...)
}

// doublyWrongTrails returns trails with several errors, to tell which one comes first.
func doublyWrongTrails() []changed[[]api.Trail] {
	many := func(l *[]api.Trail) { *l = manyTrails(41) }
	same := func(i int) func(l *[]api.Trail) { return element(i, func(t *api.Trail) { t.ID = 1 }) }
	end := func(i int) func(l *[]api.Trail) { return element(i, isIn(at(49, 0))) }
	spans := func(i int) func(l *[]api.Trail) { return element(i, closedIn(make([]api.Span, 9)...)) }
	empty := func(i int) func(l *[]api.Trail) { return element(i, closedIn(span(1, 0))) }
	return []changed[[]api.Trail]{
		{"41 trails", api.ErrLimit, many},
		{"41 zero trails", api.ErrLimit, func(l *[]api.Trail) { *l = make([]api.Trail, 41) }},
		{"41 trails, wrong end", api.ErrLimit, each(many, end(0))},
		{"41 trails, the same ID", api.ErrLimit, func(l *[]api.Trail) { *l = slices.Repeat(example(), 14) }},
		{"the ID of the first one", api.ErrTwice, same(1)},
		{"the ID of the first one at the end", api.ErrTwice, same(2)},
		{"the ID of the second one", api.ErrTwice, element(2, func(t *api.Trail) { t.ID = 2 })},
		{"too many spans, wrong end", api.ErrArg, each(spans(1), end(1))},
		{"too many spans, ID 0", api.ErrArg, each(spans(0), element(0, func(t *api.Trail) { t.ID = 0 }))},
		{"too many spans, too slow", api.ErrArg, each(spans(0), element(0, func(t *api.Trail) { t.Slow = 1441 }))},
		{"too many spans, same ID", api.ErrLimit, each(same(1), spans(1))},
		{"no span, same ID", api.ErrArg, each(same(1), empty(1))},
		{"wrong end, same ID", api.ErrArg, each(same(1), end(1))},
		{"same ID, then wrong end", api.ErrTwice, each(same(1), end(2))},
		{"same ID, then too many spans", api.ErrTwice, each(same(1), spans(2))},
		{"no span, then too many spans", api.ErrArg, each(empty(0), spans(1))},
		{"too many spans, then no span", api.ErrLimit, each(spans(0), empty(1))},
		{"too many spans, then wrong end", api.ErrLimit, each(spans(0), end(1))},
		{"wrong end, then too many spans", api.ErrArg, each(end(0), spans(1))},
	}
}

// wrongCrewsAlone returns what can be wrong with a crew.
func wrongCrewsAlone() []changed[api.Crew] {
	type change = changed[api.Crew]
	out := []change{{"zero crew", api.ErrArg, func(c *api.Crew) { *c = api.Crew{} }}}
	for _, n := range outside(1, 1<<40) {
		out = append(out, change{"ID of a crew", api.ErrArg, func(c *api.Crew) { c.ID = n }})
	}
	for _, n := range outside(0, 1<<20) {
		out = append(out, change{"Free", api.ErrArg, func(c *api.Crew) { c.Free = n }})
	}
	for _, p := range wrongPlaces() {
		out = append(out, change{"At", api.ErrArg, func(c *api.Crew) { c.At = p }})
	}
	return out
}

// someCrews returns right crews.
func someCrews(n int) []api.Crew {
	var out []api.Crew
	for i := range n {
		out = append(out, api.Crew{ID: 50 - i, At: at(i, 2*i), Free: 10 * i})
	}
	return out
}

// wrongCrews returns what can be wrong with three crews.
func wrongCrews() []changed[[]api.Crew] {
	type change = changed[[]api.Crew]
	twice := element(1, func(c *api.Crew) { c.ID = 50 })
	late := func(i int) func(l *[]api.Crew) { return element(i, func(c *api.Crew) { c.Free = 1<<20 + 1 }) }
	out := []change{
		{"seven crews", api.ErrLimit, func(l *[]api.Crew) { *l = someCrews(7) }},
		{"seven zero crews", api.ErrLimit, func(l *[]api.Crew) { *l = make([]api.Crew, 7) }},
		{"ID of a crew twice", api.ErrTwice, twice},
		{"ID of a crew at the end", api.ErrTwice, element(2, func(c *api.Crew) { c.ID = 50 })},
		{"ID of a crew twice, late", api.ErrArg, each(twice, late(1))},
		{"ID of a crew twice, then late", api.ErrTwice, each(twice, late(2))},
		{"late, then ID of a crew twice", api.ErrArg, each(late(0), twice)},
	}
	for _, x := range wrongCrewsAlone() {
		for i := range 3 {
			out = append(out, change{x.name, x.e, element(i, x.do)})
		}
	}
	return out
}

// cellOf returns places by Y and then by X.
func cellOf(n int) []api.Place {
	var out []api.Place
	for i := range n {
		out = append(out, at(i%40, 2+i/40))
	}
	return out
}

func isAt(l ...api.Place) func(b *api.Blaze) { return func(b *api.Blaze) { b.Cell = l } }

// wrongBlazesAlone returns what can be wrong with a smoke.
func wrongBlazesAlone() []changed[api.Blaze] {
	type change = changed[api.Blaze]
	out := []change{
		{"zero smoke", api.ErrArg, func(b *api.Blaze) { *b = api.Blaze{} }},
		{"no place", api.ErrArg, isAt()},
		{"201 places", api.ErrArg, isAt(cellOf(201)...)},
		{"a place twice", api.ErrArg, isAt(at(3, 3), at(3, 3))},
		{"a place twice behind another one", api.ErrArg, isAt(at(1, 3), at(3, 3), at(3, 3))},
		{"places by X", api.ErrArg, isAt(at(3, 4), at(4, 3))},
		{"places of a row in no order", api.ErrArg, isAt(at(4, 3), at(3, 3))},
		{"the last place first", api.ErrArg, isAt(at(4, 3), at(4, 4), at(3, 3))},
	}
	for _, n := range outside(1, 1<<40) {
		out = append(out, change{"ID of a smoke", api.ErrArg, func(b *api.Blaze) { b.ID = n }})
	}
	for _, p := range wrongPlaces() {
		out = append(out, change{"a wrong place", api.ErrArg, isAt(p)})
		if p.Y > 0 {
			out = append(out, change{"a wrong place behind a right one", api.ErrArg, isAt(at(48, 0), p)})
		}
	}
	return out
}

// someBlazes returns right smokes.
func someBlazes(n int) []api.Blaze {
	var out []api.Blaze
	for i := range n {
		out = append(out, api.Blaze{ID: 90 - i, Cell: cellOf(i + 1), Proved: i%2 == 0})
	}
	return out
}

// wrongBlazes returns what can be wrong with three smokes.
func wrongBlazes() []changed[[]api.Blaze] {
	type change = changed[[]api.Blaze]
	twice := element(1, func(b *api.Blaze) { b.ID = 90 })
	nowhere := func(i int) func(l *[]api.Blaze) { return element(i, isAt()) }
	out := []change{
		{"nine smokes", api.ErrLimit, func(l *[]api.Blaze) { *l = someBlazes(9) }},
		{"nine zero smokes", api.ErrLimit, func(l *[]api.Blaze) { *l = make([]api.Blaze, 9) }},
		{"ID of a smoke twice", api.ErrTwice, twice},
		{"ID of a smoke at the end", api.ErrTwice, element(2, func(b *api.Blaze) { b.ID = 90 })},
		{"ID of a smoke twice, nowhere", api.ErrArg, each(twice, nowhere(1))},
		{"ID of a smoke twice, then nowhere", api.ErrTwice, each(twice, nowhere(2))},
		{"nowhere, then ID of a smoke twice", api.ErrArg, each(nowhere(0), twice)},
	}
	for _, x := range wrongBlazesAlone() {
		for i := range 3 {
			out = append(out, change{x.name, x.e, element(i, x.do)})
		}
	}
	return out
}
