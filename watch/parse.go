package watch

import (
	"strconv"

	"firetower/api"
)

// The names of the facts, by their numbers, and the signs of the operators.
var (
	factNames = [...]string{api.FaCell: "cell", api.FaSeen: "seen", api.FaAge: "age", api.FaHour: "hour", api.FaFree: "free"}
	opSigns   = [...]string{api.OpEqual: "=", api.OpOther: "!=", api.OpLess: "<", api.OpMost: "<=", api.OpMore: ">", api.OpLeast: ">="}
)

// Parse returns the watch that a source is, or an error with the index of a byte.
func Parse(source string) (api.Watch, api.Errno, int) {
	w, e, at := read(source, (*parser).watch)
	if e == api.OK {
		e = Check(w)
	}
	if e != api.OK {
		return api.Watch{}, e, at
	}
	return w, api.OK, 0
}

// ParseCond returns the condition that a source is, or an error with the index of a byte.
func ParseCond(source string) (api.Cond, api.Errno, int) {
	c, e, at := read(source, (*parser).cond)
	if e == api.OK {
		e = checkCond(c)
	}
	if e != api.OK {
		return api.Cond{}, e, at
	}
	return c, api.OK, 0
}

// read returns what a part of the grammar makes of all tokens of a source. The tokens are found before any is read, because their errors come first.
func read[T any](source string, part func(p *parser) T) (out T, e api.Errno, at int) {
	if len(source) > api.MaxSource {
		return out, api.ErrLimit, 0
	}
	defer func() {
		if f := recover(); f != nil {
			e, at = api.ErrForm, int(f.(fault))
		}
	}()
	p := &parser{}
	for t := range tokens(source) {
		p.ahead = append(p.ahead, t)
	}
	whole := part(p)
	p.one(endToken)
	return whole, api.OK, 0
}

// parser has the tokens that are not read yet; the last one is an endToken.
type parser struct{ ahead []token }

// fail ends the reading at the next token.
func (p *parser) fail() { panic(fault(p.ahead[0].at)) }

// took reads a token if it is the next one, and reports whether it is.
func (p *parser) took(text string) bool {
	is := p.ahead[0].text == text
	if is {
		p.ahead = p.ahead[1:]
	}
	return is
}

func (p *parser) must(text string) {
	if !p.took(text) {
		p.fail()
	}
}

// one reads a token of a kind, and returns its text.
func (p *parser) one(kind int) string {
	next := p.ahead[0]
	if next.kind != kind {
		p.fail()
	}
	p.ahead = p.ahead[1:]
	return next.text
}

func (p *parser) name() string { return p.one(nameToken) }

func (p *parser) number() int {
	n, _ := strconv.Atoi(p.one(numberToken))
	return n
}

func (p *parser) watch() api.Watch {
	var out api.Watch
	for p.ahead[0].kind != endToken {
		if p.took("order") {
			out.Orders = append(out.Orders, p.order())
		} else {
			out.Lines = append(out.Lines, p.line())
		}
	}
	return out
}

func (p *parser) line() api.Line {
	var l api.Line
	switch {
	case p.took("watch"):
		l.Kind, l.Tower = api.LiWatch, p.name()
		p.must("by")
		l.Person = p.name()
	case p.took("rest"):
		l.Kind, l.Person = api.LiRest, p.name()
	case p.took("cancel"):
		l.Kind, l.Tower = api.LiCancel, p.name()
	case p.took("swap"):
		l.Kind, l.Person = api.LiSwap, p.name()
		l.Other = p.name()
	default:
		p.fail()
	}
	p.days(&l)
	p.must(";")
	return l
}

// days reads the days of a line.
func (p *parser) days(l *api.Line) {
	l.Every = 1
	if p.took("on") {
		l.From = p.number()
		l.To = l.From
	} else {
		p.must("from")
		l.From = p.number()
		p.must("to")
		l.To = p.number()
		if p.took("every") {
			l.Every = p.number()
		}
	}
	if !p.took("except") {
		return
	}
	l.Except = append(l.Except, p.number())
	for p.took(",") {
		l.Except = append(l.Except, p.number())
	}
}

// order reads what stands behind the word "order".
func (p *parser) order() api.Order {
	o := api.Order{Name: p.name()}
	if p.took("rank") {
		o.Rank = p.number()
	}
	p.must("if")
	o.When = p.cond()
	p.must(";")
	return o
}

func (p *parser) cond() api.Cond {
	out := p.and()
	for p.took("or") {
		out = api.Cond{Kind: api.CoOr, Kids: []api.Cond{out, p.and()}}
	}
	return out
}

func (p *parser) and() api.Cond {
	out := p.not()
	for p.took("and") {
		out = api.Cond{Kind: api.CoAnd, Kids: []api.Cond{out, p.not()}}
	}
	return out
}

func (p *parser) not() api.Cond {
	if p.took("not") {
		return api.Cond{Kind: api.CoNot, Kids: []api.Cond{p.not()}}
	}
	if p.took("(") {
		out := p.cond()
		p.must(")")
		return out
	}
	return p.comparison()
}

func (p *parser) comparison() api.Cond {
	out := api.Cond{Kind: api.CoIs, Fact: p.fact()}
	out.Op = p.op()
	out.N = p.number()
	return out
}

func (p *parser) fact() int {
	for fact, name := range factNames {
		if p.took(name) {
			return fact
		}
	}
	p.fail()
	return 0
}

func (p *parser) op() int {
	for op, sign := range opSigns {
		if sign != "" && p.took(sign) {
			return op
		}
	}
	p.fail()
	return 0
}
