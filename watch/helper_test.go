package watch_test

import (
	"maps"
	"regexp"
	"slices"
	"strconv"
	"strings"
	"testing"

	"firetower/api"
	"firetower/watch"
)

// What follows is written from the chapter alone, in the plainest way, so that the package can be held against it.

const example = `watch north by ann from 1 to 10 every 2 except 5;
watch north by ben from 2 to 10 every 2;
watch south by ann on 4;
rest ben on 6;
swap ann ben on 4;
order send if cell <= 9 and seen >= 2;
order look rank 1 if not (seen > 1 or hour < 6);
`

type facts = [api.Facts]int

func span(lo, hi int) api.Span { return api.Span{Lo: lo, Hi: hi} }

// parsed returns the watch that a source is.
func parsed(t *testing.T, source string) api.Watch {
	t.Helper()
	w, e, at := watch.Parse(source)
	if e != api.OK || at != 0 {
		t.Fatal(source, e, at)
	}
	return w
}

// cond returns the condition that a source is.
func cond(t *testing.T, source string) api.Cond {
	t.Helper()
	c, e, at := watch.ParseCond(source)
	if e != api.OK || at != 0 {
		t.Fatal(source, e, at)
	}
	return c
}

// is returns a comparison.
func is(fact, op, n int) api.Cond { return api.Cond{Kind: api.CoIs, Fact: fact, Op: op, N: n} }

// not returns what a condition is not.
func not(c api.Cond) api.Cond { return api.Cond{Kind: api.CoNot, Kids: []api.Cond{c}} }

// both returns a condition of two kids.
func both(kind int, a, b api.Cond) api.Cond { return api.Cond{Kind: kind, Kids: []api.Cond{a, b}} }

// joined returns a condition of many, that is as low as can be.
func joined(kind int, l []api.Cond) api.Cond {
	if len(l) == 1 {
		return l[0]
	}
	return both(kind, joined(kind, l[:len(l)/2]), joined(kind, l[len(l)/2:]))
}

func sameCond(a, b api.Cond) bool {
	return a.Kind == b.Kind && a.Fact == b.Fact && a.Op == b.Op && a.N == b.N && slices.EqualFunc(a.Kids, b.Kids, sameCond)
}

func sameLine(a, b api.Line) bool {
	return a.Kind == b.Kind && a.Tower == b.Tower && a.Person == b.Person && a.Other == b.Other &&
		a.From == b.From && a.To == b.To && a.Every == b.Every && slices.Equal(a.Except, b.Except)
}

func sameOrder(a, b api.Order) bool {
	return a.Name == b.Name && a.Rank == b.Rank && sameCond(a.When, b.When)
}

func sameWatch(a, b api.Watch) bool {
	return slices.EqualFunc(a.Lines, b.Lines, sameLine) && slices.EqualFunc(a.Orders, b.Orders, sameOrder)
}

func sameVersion(a, b api.Version) bool {
	return a.ID == b.ID && a.From == b.From && sameWatch(a.Watch, b.Watch)
}

// The tokens, and what separates them.
var (
	blanks  = regexp.MustCompile(`^([ \t\n]|#[^\n]*)*`)
	words   = regexp.MustCompile(`^[a-z][a-z0-9]*`)
	numbers = regexp.MustCompile(`^(0|[1-9][0-9]*)`)
	signs   = regexp.MustCompile(`^(!=|<=|>=|[;,()=<>])`)
)

var reservedWords = strings.Fields("watch by rest cancel swap order rank if and or not on from to every except cell seen age hour free")

// plainToken is a symbol of the grammar, and where it begins.
type plainToken struct {
	symbol string
	at     int
}

// plainTokens returns the tokens of a source, or the index of the first error of one; -1 if there is none.
func plainTokens(source string) ([]plainToken, int) {
	var out []plainToken
	at := 0
	for {
		at += len(blanks.FindString(source[at:]))
		if at == len(source) {
			return out, -1
		}
		rest := source[at:]
		word, number, sign := words.FindString(rest), numbers.FindString(rest), signs.FindString(rest)
		n, _ := strconv.Atoi(number)
		after := rest[len(number):]
		switch {
		case word == "" && number == "" && sign == "", len(word) > 24, number != "" && (len(number) > 5 || n > 10000):
			return nil, at
		case number != "" && after != "" && regexp.MustCompile(`^[0-9a-zA-Z]`).MatchString(after):
			return nil, at + len(number)
		case number != "":
			out = append(out, plainToken{"number", at})
		case word != "" && !slices.Contains(reservedWords, word):
			out = append(out, plainToken{"name", at})
		default:
			out = append(out, plainToken{word + sign, at})
		}
		at += len(word) + len(number) + len(sign)
	}
}

// grammar is that of the chapter; what stands in brackets and braces there has symbols of its own.
var grammar = map[string][]string{
	"SOURCE":     {"", "LINE SOURCE", "ORDER SOURCE"},
	"LINE":       {"watch name by name DAYS ;", "rest name DAYS ;", "cancel name DAYS ;", "swap name name DAYS ;"},
	"DAYS":       {"on number EXCEPT", "from number to number EVERY EXCEPT"},
	"EVERY":      {"", "every number"},
	"EXCEPT":     {"", "except number NUMBERS"},
	"NUMBERS":    {"", ", number NUMBERS"},
	"ORDER":      {"order name RANK if COND ;"},
	"RANK":       {"", "rank number"},
	"COND":       {"AND ORS"},
	"ORS":        {"", "or AND ORS"},
	"AND":        {"NOT ANDS"},
	"ANDS":       {"", "and NOT ANDS"},
	"NOT":        {"not NOT", "( COND )", "COMPARISON"},
	"COMPARISON": {"cell OP number", "seen OP number", "age OP number", "hour OP number", "free OP number"},
	"OP":         {"=", "!=", "<", "<=", ">", ">="},
}

// opened returns, for each way to go on from some symbols, the symbols that are left then, the first one of which stands for no others.
func opened(symbols []string) [][]string {
	if len(symbols) == 0 {
		return [][]string{nil}
	}
	ways, is := grammar[symbols[0]]
	if !is {
		return [][]string{symbols}
	}
	var out [][]string
	for _, way := range ways {
		out = append(out, opened(slices.Concat(strings.Fields(way), symbols[1:]))...)
	}
	return out
}

// plainRead returns what the errors of a source, or of a condition, have to be before Check: it goes all ways of the grammar at once.
func plainRead(source, start string) (api.Errno, int) {
	if len(source) > 6000 {
		return api.ErrLimit, 0
	}
	tokens, at := plainTokens(source)
	if at >= 0 {
		return api.ErrForm, at
	}
	ways := opened([]string{start})
	for _, token := range tokens {
		var next [][]string
		for _, way := range ways {
			if len(way) > 0 && way[0] == token.symbol {
				next = append(next, opened(way[1:])...)
			}
		}
		if ways = next; len(ways) == 0 {
			return api.ErrForm, token.at
		}
	}
	if !slices.ContainsFunc(ways, func(way []string) bool { return len(way) == 0 }) {
		return api.ErrForm, len(source)
	}
	return api.OK, 0
}

var (
	plainFacts = []string{"cell", "seen", "age", "hour", "free"}
	plainOps   = []string{"", "=", "!=", "<", "<=", ">", ">="}
)

// plainCond returns the text of a condition.
func plainCond(c api.Cond) string {
	kid := func(i int, levels ...int) string {
		level := map[int]int{api.CoOr: 0, api.CoAnd: 1, api.CoNot: 2, api.CoIs: 2}[c.Kids[i].Kind]
		if slices.Contains(levels, level) {
			return plainCond(c.Kids[i])
		}
		return "(" + plainCond(c.Kids[i]) + ")"
	}
	switch c.Kind {
	case api.CoOr:
		return kid(0, 0, 1, 2) + " or " + kid(1, 1, 2)
	case api.CoAnd:
		return kid(0, 1, 2) + " and " + kid(1, 2)
	case api.CoNot:
		return "not " + kid(0, 2)
	}
	return plainFacts[c.Fact] + " " + plainOps[c.Op] + " " + strconv.Itoa(c.N)
}

// plainWho returns the text of a line up to its days.
func plainWho(l api.Line) string {
	return map[int]string{
		api.LiWatch: "watch " + l.Tower + " by " + l.Person, api.LiRest: "rest " + l.Person, api.LiCancel: "cancel " + l.Tower, api.LiSwap: "swap " + l.Person + " " + l.Other,
	}[l.Kind]
}

// plainText returns the text of a watch.
func plainText(w api.Watch) string {
	out := ""
	for _, l := range w.Lines {
		out += plainWho(l)
		switch {
		case l.From == l.To && l.Every == 1:
			out += " on " + strconv.Itoa(l.From)
		case l.Every == 1:
			out += " from " + strconv.Itoa(l.From) + " to " + strconv.Itoa(l.To)
		default:
			out += " from " + strconv.Itoa(l.From) + " to " + strconv.Itoa(l.To) + " every " + strconv.Itoa(l.Every)
		}
		var days []string
		for _, d := range l.Except {
			days = append(days, strconv.Itoa(d))
		}
		if len(days) > 0 {
			out += " except " + strings.Join(days, ", ")
		}
		out += ";\n"
	}
	for _, o := range w.Orders {
		out += "order " + o.Name
		if o.Rank > 0 {
			out += " rank " + strconv.Itoa(o.Rank)
		}
		out += " if " + plainCond(o.When) + ";\n"
	}
	return out
}

// plainFor reports whether a line is for a day.
func plainFor(l api.Line, day int) bool {
	for d := l.From; d <= l.To; d += l.Every {
		if d == day && !slices.Contains(l.Except, day) {
			return true
		}
	}
	return false
}

// plainDuties returns the duties of a day.
func plainDuties(w api.Watch, day int) []api.Duty {
	var out []api.Duty
	for _, l := range w.Lines {
		if !plainFor(l, day) {
			continue
		}
		pair := api.Duty{Day: day, Tower: l.Tower, Person: l.Person}
		switch l.Kind {
		case api.LiWatch:
			if !slices.Contains(out, pair) {
				out = append(out, pair)
			}
		case api.LiRest:
			out = slices.DeleteFunc(out, func(d api.Duty) bool { return d.Person == l.Person })
		case api.LiCancel:
			out = slices.DeleteFunc(out, func(d api.Duty) bool { return d.Tower == l.Tower })
		case api.LiSwap:
			for i, d := range out {
				if d.Person == l.Person {
					out[i].Person = l.Other
				} else if d.Person == l.Other {
					out[i].Person = l.Person
				}
			}
		}
	}
	slices.SortFunc(out, func(a, b api.Duty) int { return strings.Compare(a.Tower+" "+a.Person, b.Tower+" "+b.Person) })
	return out
}

// plainWatchers returns the persons of a tower on a day.
func plainWatchers(w api.Watch, day int, tower string) []string {
	var out []string
	for _, d := range plainDuties(w, day) {
		if d.Tower == tower {
			out = append(out, d.Person)
		}
	}
	return out
}

// plainPlain returns the lines that Plain has to return, however many they are.
func plainPlain(w api.Watch, days api.Span) []api.Line {
	stood := map[[2]string][]int{}
	for day := days.Lo; day <= days.Hi; day++ {
		for _, d := range plainDuties(w, day) {
			stood[[2]string{d.Tower, d.Person}] = append(stood[[2]string{d.Tower, d.Person}], day)
		}
	}
	pairs := slices.SortedFunc(maps.Keys(stood), func(a, b [2]string) int { return slices.Compare(a[:], b[:]) })
	var out []api.Line
	for _, pair := range pairs {
		l := stood[pair]
		line := api.Line{Kind: api.LiWatch, Tower: pair[0], Person: pair[1], From: l[0], To: l[len(l)-1], Every: 1}
		for day := line.From; day <= line.To; day++ {
			if !slices.Contains(l, day) {
				line.Except = append(line.Except, day)
			}
		}
		if len(line.Except) <= 20 {
			out = append(out, line)
			continue
		}
		line.Except = nil
		for _, day := range l {
			if !slices.Contains(l, day-1) {
				line.From = day
			}
			if !slices.Contains(l, day+1) {
				line.To = day
				out = append(out, line)
			}
		}
	}
	return out
}

// plainHolds reports whether a condition holds for facts.
func plainHolds(c api.Cond, f facts) bool {
	switch c.Kind {
	case api.CoNot:
		return !plainHolds(c.Kids[0], f)
	case api.CoAnd:
		return plainHolds(c.Kids[0], f) && plainHolds(c.Kids[1], f)
	case api.CoOr:
		return plainHolds(c.Kids[0], f) || plainHolds(c.Kids[1], f)
	}
	d := f[c.Fact] - c.N
	return [...]bool{api.OpEqual: d == 0, api.OpOther: d != 0, api.OpLess: d < 0, api.OpMost: d <= 0, api.OpMore: d > 0, api.OpLeast: d >= 0}[c.Op]
}

// plainNumbers returns the numbers with which conditions compare a fact.
func plainNumbers(fact int, l []api.Cond) []int {
	var out []int
	for _, c := range l {
		if c.Kind == api.CoIs && c.Fact == fact {
			out = append(out, c.N)
		}
		out = append(out, plainNumbers(fact, c.Kids)...)
	}
	return out
}

// plainTried returns the numbers that are tried for a fact.
func plainTried(fact int, l []api.Cond) []int {
	tried := map[int]bool{0: true}
	for _, n := range plainNumbers(fact, l) {
		tried[n] = true
		tried[n+1] = true
	}
	delete(tried, 10001)
	return slices.Sorted(maps.Keys(tried))
}

// plainChoices returns all facts that are looked at for some conditions, in order, or ErrCells.
func plainChoices(l []api.Cond) ([]facts, api.Errno) {
	count := 1
	for fact := range api.Facts {
		count *= len(plainTried(fact, l))
	}
	if count > 20000 {
		return nil, api.ErrCells
	}
	out := []facts{{}}
	for fact := range api.Facts {
		tried := plainTried(fact, l)
		var next []facts
		for _, f := range out {
			for _, n := range tried {
				f[fact] = n
				next = append(next, f)
			}
		}
		out = next
	}
	return out, api.OK
}

// plainAlways returns whether something is so for all facts that are looked at for some conditions, or the first ones for which it is not.
func plainAlways(l []api.Cond, is func(f facts) bool) (facts, bool, api.Errno) {
	all, e := plainChoices(l)
	if e != api.OK {
		return facts{}, false, e
	}
	if i := slices.IndexFunc(all, func(f facts) bool { return !is(f) }); i >= 0 {
		return all[i], false, api.OK
	}
	return facts{}, true, api.OK
}

// plainGiven returns the index of the order that is given for facts; -1 if there is none.
func plainGiven(l []api.Order, f facts) int {
	for rank := 100; rank >= 0; rank-- {
		for i, o := range l {
			if o.Rank == rank && plainHolds(o.When, f) {
				return i
			}
		}
	}
	return -1
}

// plainName returns the name of the order that is given for facts; it is empty if there is none.
func plainName(l []api.Order, f facts) string {
	if i := plainGiven(l, f); i >= 0 {
		return l[i].Name
	}
	return ""
}

// conditions returns the conditions of some orders.
func conditions(l ...api.Order) []api.Cond {
	var out []api.Cond
	for _, o := range l {
		out = append(out, o.When)
	}
	return out
}

// mustBe fails a test if an error is not the one that it should be.
func mustBe(t *testing.T, e, want api.Errno, what ...any) {
	t.Helper()
	if e != want {
		t.Error(append([]any{"error", e, "instead of", want, "of"}, what...)...)
	}
}

// counted fails a test if something that it should have met was too seldom.
func counted(t *testing.T, what string, n, least int) {
	t.Helper()
	if n < least {
		t.Error("only", n, what, "instead of", least)
	}
}
