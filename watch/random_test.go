package watch_test

import (
	"math/rand/v2"
	"slices"
	"strconv"
	"strings"

	"firetower/api"
)

func random(n uint64) *rand.Rand { return rand.New(rand.NewPCG(8, n)) }

// oneOf returns one of some things.
func oneOf[T any](r *rand.Rand, l ...T) T { return l[r.IntN(len(l))] }

func randomTower(r *rand.Rand) string { return oneOf(r, "n", "north", "s9") }

func randomPerson(r *rand.Rand) string {
	return oneOf(r, "a", "ann", "a1", "ben", strings.Repeat("z", 24))
}

// randomExcept returns days in increasing order, at most so many, up to a last one.
func randomExcept(r *rand.Rand, most, last int) []int {
	var out []int
	for range r.IntN(most + 1) {
		out = append(out, r.IntN(last+1))
	}
	slices.Sort(out)
	return slices.Compact(out)
}

// randomLine returns a formed line whose days are at most a last one.
func randomLine(r *rand.Rand, last int) api.Line {
	l := api.Line{Kind: oneOf(r, api.LiWatch, api.LiWatch, api.LiWatch, api.LiWatch, api.LiWatch, api.LiRest, api.LiCancel, api.LiSwap, api.LiSwap)}
	if l.Kind == api.LiWatch || l.Kind == api.LiCancel {
		l.Tower = randomTower(r)
	}
	if l.Kind != api.LiCancel {
		l.Person = randomPerson(r)
	}
	for l.Kind == api.LiSwap && (l.Other == "" || l.Other == l.Person) {
		l.Other = randomPerson(r)
	}
	l.From = r.IntN(last+1) / oneOf(r, 1, 4)
	l.To = oneOf(r, last, l.From, l.From+r.IntN(last+1-l.From))
	l.Every = oneOf(r, 1, 1, 1, 2, 3, 1+r.IntN(400))
	if r.IntN(2) == 0 {
		l.Except = randomExcept(r, oneOf(r, 2, 20), last)
	}
	return l
}

// randomRoster returns a watch of at most so many lines alone.
func randomRoster(r *rand.Rand, most, last int) api.Watch {
	var w api.Watch
	for range r.IntN(most + 1) {
		w.Lines = append(w.Lines, randomLine(r, last))
	}
	return w
}

// randomCond returns a condition that is at most so deep, and compares facts with numbers that a function returns.
func randomCond(r *rand.Rand, deep int, number func() int) api.Cond {
	if deep == 1 || r.IntN(5) == 0 {
		return is(r.IntN(api.Facts), 1+r.IntN(6), number())
	}
	kid := func() api.Cond { return randomCond(r, deep-1, number) }
	if r.IntN(4) == 0 {
		return not(kid())
	}
	return both(oneOf(r, api.CoAnd, api.CoOr), kid(), kid())
}

// comparisons returns a condition of so many comparisons.
func comparisons(r *rand.Rand, n int, number func() int) api.Cond {
	var l []api.Cond
	for range n {
		l = append(l, randomCond(r, 1, number))
	}
	return joined(oneOf(r, api.CoAnd, api.CoOr), l)
}

// low returns numbers from 0 to 2.
func low(r *rand.Rand) func() int { return func() int { return r.IntN(3) } }

// ends returns numbers at both ends.
func ends(r *rand.Rand) func() int { return func() int { return oneOf(r, 0, 1, 9999, 10000) } }

// wide returns any numbers.
func wide(r *rand.Rand) func() int {
	return func() int { return oneOf(r, r.IntN(25), r.IntN(10001), 0, 10000) }
}

// randomOrders returns at most so many orders.
func randomOrders(r *rand.Rand, most, deep int, number func() int) []api.Order {
	var out []api.Order
	for range r.IntN(most + 1) {
		out = append(out, api.Order{Name: oneOf(r, "send", "look", "wait"), Rank: oneOf(r, 0, 0, 1, 2, 100), When: randomCond(r, deep, number)})
	}
	return out
}

// randomFacts returns any facts.
func randomFacts(r *rand.Rand) facts {
	var f facts
	for i := range f {
		f[i] = oneOf(r, r.IntN(5), r.IntN(25), r.IntN(10001), 10000)
	}
	return f
}

func randomSpan(r *rand.Rand, last int) api.Span {
	lo := r.IntN(last + 1)
	return span(lo, lo+r.IntN(last+1-lo))
}

// randomBlank returns what can stand between two tokens.
func randomBlank(r *rand.Rand) string {
	return oneOf(r, " ", " ", "\n", "\t", "  \n", "# a comment; rest !\n", " #\xff\n#\n")
}

// respaced returns a text in which other things stand between tokens.
func respaced(r *rand.Rand, text string) string {
	var out strings.Builder
	last := 0
	tokens, _ := plainTokens(text)
	for _, token := range tokens {
		at := token.at
		if at > last || r.IntN(3) == 0 {
			out.WriteString(randomBlank(r))
		}
		end := at + max(1, len(words.FindString(text[at:])), len(numbers.FindString(text[at:])), len(signs.FindString(text[at:])))
		out.WriteString(text[at:end])
		last = end
	}
	return out.String() + oneOf(r, "", "\n", "# the end")
}

// looseCond returns a text of a condition with more parentheses than it needs.
func looseCond(r *rand.Rand, c api.Cond) string {
	kid := func(i int) string {
		if c.Kids[i].Kind == api.CoIs && r.IntN(2) == 0 {
			return looseCond(r, c.Kids[i])
		}
		return "(" + looseCond(r, c.Kids[i]) + ")"
	}
	switch c.Kind {
	case api.CoOr:
		return kid(0) + " or " + kid(1)
	case api.CoAnd:
		return kid(0) + " and " + kid(1)
	case api.CoNot:
		return "not " + kid(0)
	}
	return plainCond(c)
}

// looseText returns a text of a watch that Print does not return: lines and orders are mixed, and what could be left out stands there.
func looseText(r *rand.Rand, w api.Watch) string {
	var lines, orders []string
	for _, l := range w.Lines {
		text := plainText(api.Watch{Lines: []api.Line{l}})
		if l.Every == 1 {
			days := " from " + strconv.Itoa(l.From) + " to " + strconv.Itoa(l.To)
			text = strings.Replace(text, " on "+strconv.Itoa(l.From), days, 1)
			text = strings.Replace(text, days, days+oneOf(r, "", " every 1"), 1)
		}
		lines = append(lines, text)
	}
	for _, o := range w.Orders {
		rank := " rank " + strconv.Itoa(o.Rank)
		if o.Rank == 0 && r.IntN(2) == 0 {
			rank = ""
		}
		orders = append(orders, "order "+o.Name+rank+" if "+looseCond(r, o.When)+";")
	}
	out := ""
	for len(lines)+len(orders) > 0 {
		from := &lines
		if len(lines) == 0 || len(orders) > 0 && r.IntN(2) == 0 {
			from = &orders
		}
		out += (*from)[0]
		*from = (*from)[1:]
	}
	return respaced(r, out)
}

// damaged returns a source in which a few bytes or tokens are others.
func damaged(r *rand.Rand, source string) string {
	for range 1 + r.IntN(2) {
		i := r.IntN(len(source) + 1)
		j := i + r.IntN(min(8, len(source)-i)+1)
		with := oneOf(r, "", " ", "0", "7", "x", "X", "!", "<", "=", "#", "\r", "\xc3", " 10001 ", " 00", strings.Repeat("a", 24))
		if r.IntN(2) == 0 {
			with = " " + oneOf(r, append(slices.Clone(reservedWords), "name", "3", ";", ",", "(", ")", "=", "<", ">=")...) + " "
		}
		source = source[:i] + with + source[j:]
	}
	return source
}
