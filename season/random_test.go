package season_test

import (
	"math/rand/v2"
	"slices"
	"strings"
	"testing"

	"firetower/api"
	"firetower/circle"
	"firetower/season"
)

// random returns a generator of numbers that are the same in each run.
func random(seed uint64) *rand.Rand { return rand.New(rand.NewPCG(seed, 10)) }

// oneOf returns an element of a list.
func oneOf[T any](r *rand.Rand, l []T) T { return l[r.IntN(len(l))] }

// some returns so many numbers from 1 to 6, in increasing order.
func some(r *rand.Rand, n int) []int {
	var out []int
	for _, i := range r.Perm(6)[:n] {
		out = append(out, i+1)
	}
	slices.Sort(out)
	return out
}

// randomSetting returns a right setting of a small map, whose towers stand in no order.
func randomSetting(r *rand.Rand) api.Setting {
	s := api.Setting{Rise: r.IntN(30), Long: 20 + r.IntN(120), Wait: 1 + r.IntN(30)}
	m := api.Map{Wide: 5 + r.IntN(5), High: 4 + r.IntN(5)}
	for range m.Wide * m.High {
		m.Ground = append(m.Ground, r.IntN(20))
	}
	country := api.Country{Map: m}
	spot := func() api.Place { return at(r.IntN(m.Wide), r.IntN(m.High)) }
	for i, id := range r.Perm(9)[:1+r.IntN(4)] {
		country.Towers = append(country.Towers, api.Tower{ID: id + 1, At: spot(), Height: r.IntN(60)})
		zero := r.IntN(7) - 3
		c := api.Circle{ID: i + 1, At: country.Towers[i].At, From: r.IntN(3), To: 100 + r.IntN(200), Zero: span(zero, zero+r.IntN(9)), Drift: r.IntN(20)}
		s.Service.Circles.Circles = append(s.Service.Circles.Circles, c)
	}
	if r.IntN(2) == 0 {
		country.Haze = []api.Haze{{From: 30, To: 50, Far: r.IntN(12)}, {From: 70, To: 70 + r.IntN(20), Far: 20}}
	}
	s.Service.Country = country
	for i := range r.IntN(4) {
		a, b := spot(), spot()
		if a != b {
			s.Trails = append(s.Trails, api.Trail{ID: i + 1, A: a, B: b, Fast: 3, Slow: 4 + r.IntN(9)})
		}
	}
	if len(s.Trails) > 0 && r.IntN(2) == 0 {
		s.Trails[0].Closed = []api.Span{span(10, 30), span(r.IntN(5)+31, 60)}
	}
	for i := range r.IntN(4) {
		s.Crews = append(s.Crews, api.Crew{ID: 9 - i, At: spot(), Free: r.IntN(50)})
	}
	return s
}

// towards returns about the division in which a place of the map lies from the tower of a circle.
func towards(r *rand.Rand, s api.Setting, c api.Circle, p api.Place) int {
	d, _ := circle.Division(c.At, p)
	return (d + c.Zero.Lo + r.IntN(9) - 4 + 3600) % 3600
}

// randomEntry returns an entry of the book of a tower; most of them are right.
func randomEntry(r *rand.Rand, s api.Setting, tower int) api.Entry {
	l := s.Service.Circles.Circles
	c := oneOf(r, l)
	for _, t := range s.Service.Country.Towers {
		i := slices.IndexFunc(l, func(c api.Circle) bool { return c.At == t.At })
		if t.ID == tower && r.IntN(12) > 0 {
			c = l[i]
		}
	}
	// Most of what is told is of two smokes.
	p := oneOf(r, []api.Place{at(2, 2), at(2, 2), at(2, 2), at(4, 1), at(4, 1), at(r.IntN(4), r.IntN(4))})
	e := sight(1+r.IntN(6), c.ID, r.IntN(90), towards(r, s, c, p))
	e.Report.Slack = oneOf(r, []int{0, 20, 40, 60, 80, 100})
	switch r.IntN(8) {
	case 0, 1:
		e.Report.Kind, e.Report.To = api.ReBlank, (e.Report.From+100+r.IntN(850))%3600
		e.Report.ID += 5
	case 2:
		e = mark(1+r.IntN(6), c.ID, r.IntN(110), p, towards(r, s, c, p))
		e.Check.Slack = 1 + r.IntN(30)
	case 3:
		e = back(1 + r.IntN(9))
	}
	return e
}

// randomTower returns the ID of a tower; seldom there is none with it.
func randomTower(r *rand.Rand, s api.Setting) int {
	if r.IntN(25) == 0 {
		return 77
	}
	return oneOf(r, s.Service.Country.Towers).ID
}

// randomCommand returns a command that is formed, about the minute now.
func randomCommand(r *rand.Rand, s api.Setting, now int) api.Command {
	tower, known := randomTower(r, s), max(0, now-r.IntN(40)+10)
	switch r.IntN(24) {
	case 0, 1:
		return tick(max(0, now+r.IntN(30)-2))
	case 2, 3, 4, 5, 6, 7:
		return tell(tower, randomEntry(r, s, tower))
	case 8, 9, 10:
		return mail(1 + r.IntN(30))
	case 11:
		return oneOf(r, []api.Command{lose(1 + r.IntN(30)), double(1 + r.IntN(30)), crash(tower)})
	case 12:
		return oneOf(r, []api.Command{tear(tower, r.IntN(2), r.IntN(9), r.IntN(40)), tearCopy(tower, r.IntN(2), r.IntN(9), r.IntN(40))})
	case 13, 14, 15:
		return fetch(tower)
	case 16:
		return adopt(r.IntN(3), oneOf(r, sources()))
	}
	return randomQuestion(r, now, known)
}

// randomQuestion returns a formed question.
func randomQuestion(r *rand.Rand, now, known int) api.Command {
	switch r.IntN(8) {
	case 0, 1:
		return askCell(known, some(r, 1+r.IntN(3))...)
	case 2, 3:
		two := some(r, 2)
		return askSame(known, two[0], two[1])
	case 4:
		return askSmokes(known)
	case 5:
		return askSend(now+r.IntN(20), known)
	case 6:
		return askDuty(r.IntN(5), oneOf(r, []string{"north", "south"}))
	}
	return askOrder(1+r.IntN(6), known)
}

// randomScript returns a right script.
func randomScript(r *rand.Rand, n int) api.Script {
	out := api.Script{Setting: randomSetting(r)}
	now := 0
	for range n {
		c := randomCommand(r, out.Setting, now)
		if c.Kind == api.CoTick {
			now = max(now, c.N)
		}
		out.Commands = append(out.Commands, c)
	}
	return out
}

// randomAsked returns a question, and what it is asked of.
func randomAsked(r *rand.Rand) asked {
	s := randomSetting(r)
	a := asked{s: s, now: r.IntN(9000)}
	lines := r.Perm(30)
	for i := range 2 + r.IntN(20) {
		tower := oneOf(r, s.Service.Country.Towers).ID
		a.l = append(a.l, in(tower, lines[i]+1, r.IntN(30), randomEntry(r, s, tower)))
	}
	if r.IntN(30) == 0 {
		a.l = append(a.l, a.l[0])
	}
	p, _ := season.New(s)
	for day, source := range sources() {
		if r.IntN(2) == 0 {
			p.Do(adopt(day, source))
		}
	}
	a.v = p.Versions()
	a.q = randomQuestion(r, a.now, 10+r.IntN(30))
	return a
}

// spoil returns a reply in which something is another.
func spoil(r *rand.Rand, x api.Reply) api.Reply {
	x.Places, x.Reasons, x.Sets, x.Names = slices.Clone(x.Places), slices.Clone(x.Reasons), slices.Clone(x.Sets), slices.Clone(x.Names)
	x.Joins.Fits, x.Joins.Misfits = slices.Clone(x.Joins.Fits), slices.Clone(x.Joins.Misfits)
	x.Plan.Sends, x.Plan.Crews, x.Plan.Blazes = slices.Clone(x.Plan.Sends), slices.Clone(x.Plan.Crews), slices.Clone(x.Plan.Blazes)
	spoils := []func(){
		func() { x.Err = api.Errno(r.IntN(11)) },
		func() { x.N += r.IntN(3) - 1 },
		func() { x.Places = cut(r, x.Places) },
		func() { x.Reasons = cut(r, x.Reasons) },
		func() { x.Joins.Fits = cut(r, x.Joins.Fits) },
		func() { x.Joins.Misfits = cut(r, x.Joins.Misfits) },
		func() { x.Verdict.Answer = api.Answer(r.IntN(4)) },
		func() { x.Verdict.Together, x.Verdict.Apart = x.Verdict.Apart, x.Verdict.Together },
		func() { x.Sets = cut(r, x.Sets) },
		func() { x.Plan.Sends = cut(r, x.Plan.Sends) },
		func() { x.Plan.Sum += r.IntN(3) - 1 },
		func() { x.Plan.Crews = cut(r, x.Plan.Crews) },
		func() { x.Names = cut(r, x.Names) },
		func() { x.Name = oneOf(r, []string{"", "send", "look", "far"}) },
		func() { x = api.Reply{Err: x.Err} },
	}
	for range 1 + r.IntN(2) {
		oneOf(r, spoils)()
	}
	return x
}

// cut returns a list with an element less, or more, or with two in the wrong order.
func cut[T any](r *rand.Rand, l []T) []T {
	var nothing T
	if len(l) == 0 {
		return []T{nothing}
	}
	i := r.IntN(len(l))
	switch r.IntN(4) {
	case 0:
		return less(l, i)
	case 1:
		return slices.Insert(slices.Clone(l), i, l[i])
	case 2:
		return append(slices.Clone(l), nothing)
	}
	l = slices.Clone(l)
	l[i], l[0] = l[0], l[i]
	return l
}

// mangled returns a text in which something is another.
func mangled(r *rand.Rand, s string) string {
	if s == "" {
		return "x"
	}
	i := r.IntN(len(s))
	switch r.IntN(5) {
	case 0:
		return s[:i] + s[i+1:]
	case 1:
		return s[:i] + oneOf(r, strings.Split("0 1 9 - x s m b", " ")) + s[i:]
	case 2:
		return s[:i] + " " + s[i:]
	case 3:
		return s[:i] + oneOf(r, strings.Split("0 1 2 9 - + x", " ")) + s[i+1:]
	}
	return s[:i]
}

// Random questions must be of all sorts, or tests on them would say little.
func TestRandomQuestions(t *testing.T) {
	r := random(1)
	right, wrong, cells, pairs, sends, names, orders := 0, 0, 0, map[api.Answer]int{}, 0, 0, map[string]int{}
	for range 8000 {
		a := randomAsked(r)
		x := a.answer()
		if x.Err != api.OK {
			wrong++
			continue
		}
		right++
		cells += min(len(x.Places), 1)
		pairs[x.Verdict.Answer]++
		sends += min(len(x.Plan.Sends), 1)
		names += min(len(x.Names), 1)
		orders[x.Name]++
	}
	counted(t, "answers", right, 1000)
	counted(t, "errors", wrong, 500)
	counted(t, "cells with places", cells, 100)
	for _, is := range []api.Answer{api.Yes, api.No, api.Open} {
		counted(t, "verdicts", pairs[is], 15)
	}
	counted(t, "plans with sends", sends, 50)
	counted(t, "duties", names, 20)
	for _, name := range []string{"send", "look", "few", "many", "far"} {
		counted(t, "orders "+name, orders[name], 3)
	}
}
