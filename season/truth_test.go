package season_test

import (
	"math/rand/v2"
	"slices"
	"testing"

	"firetower/api"
	"firetower/circle"
	"firetower/join"
	"firetower/ridge"
	"firetower/season"
)

// smoke is a true smoke: where it stood, and when it burned.
type smoke struct {
	at    api.Place
	burnt api.Span
	ids   []int
}

// truth is what truly was, in a season of a setting: the zeros of circles do not drift.
type truth struct {
	s      api.Setting
	zeros  []int
	smokes []smoke
}

func randomTruth(r *rand.Rand) *truth {
	x := &truth{s: randomSetting(r)}
	for i, c := range x.s.Service.Circles.Circles {
		x.zeros = append(x.zeros, c.Zero.Lo+r.IntN(c.Zero.Hi-c.Zero.Lo+1))
		x.s.Service.Circles.Circles[i].From = 0
	}
	m := x.s.Service.Country.Map
	for range 1 + r.IntN(3) {
		lo := r.IntN(60)
		x.smokes = append(x.smokes, smoke{at: at(r.IntN(m.Wide), r.IntN(m.High)), burnt: span(lo, lo+r.IntN(x.s.Long+1))})
	}
	return x
}

// sees reports whether a tower sees a smoke at a minute.
func (x *truth) sees(tower int, s smoke, minute int) bool {
	is, _ := ridge.Sees(x.s.Service.Country, tower, s.at, x.s.Rise, minute)
	return is && between(minute, s.burnt.Lo, s.burnt.Hi)
}

// read returns what a circle can show of a place.
func (x *truth) read(r *rand.Rand, i int, p api.Place, slack int) (int, bool) {
	shows, is := circle.Shows(x.s.Service.Circles.Circles[i].At, p, x.zeros[i], slack)
	return ((shows.Lo+r.IntN(shows.Hi-shows.Lo+1))%3600 + 3600) % 3600, is
}

// entry returns something that is true, told at a tower, which has the circle with the same index.
func (x *truth) entry(r *rand.Rand, i, id int) (api.Entry, bool) {
	tower, c := x.s.Service.Country.Towers[i], x.s.Service.Circles.Circles[i]
	minute, slack, k := r.IntN(100), 1+r.IntN(60), r.IntN(len(x.smokes))
	if p := at(0, 0); r.IntN(4) == 0 {
		shown, is := x.read(r, i, p, slack)
		out := mark(id, c.ID, minute, p, shown)
		out.Check.Slack = slack
		return out, is
	}
	if r.IntN(3) == 0 {
		out := blank(id, c.ID, minute, r.IntN(3600), 0)
		out.Report.To = (out.Report.From + 100 + r.IntN(800)) % 3600
		return out, !slices.ContainsFunc(x.smokes, func(s smoke) bool { return x.sees(tower.ID, s, minute) })
	}
	shown, is := x.read(r, i, x.smokes[k].at, slack)
	if !is || !x.sees(tower.ID, x.smokes[k], minute) {
		return api.Entry{}, false
	}
	x.smokes[k].ids = append(x.smokes[k].ids, id)
	out := sight(id, c.ID, minute, shown)
	out.Report.Slack = slack
	return out, true
}

// play returns a season in which what is true has been told, in some way.
func (x *truth) play(t *testing.T, r *rand.Rand) *season.Play {
	t.Helper()
	p := play(t, x.s)
	for id := 1; id < 14; id++ {
		i := r.IntN(len(x.zeros))
		if e, is := x.entry(r, i, id); is {
			did(t, p, tell(x.s.Service.Country.Towers[i].ID, e))
		}
		for range r.IntN(3) {
			n := 1 + r.IntN(20)
			p.Do(oneOf(r, []api.Command{mail(n), mail(n), mail(n), lose(n), double(n), crash(x.s.Service.Country.Towers[i].ID), tearCopy(x.s.Service.Country.Towers[i].ID, 0, r.IntN(9), r.IntN(30))}))
		}
		p.Do(tick(p.Tick() + r.IntN(20)))
		if r.IntN(6) == 0 {
			did(t, p, fetch(oneOf(r, x.s.Service.Country.Towers).ID))
		}
	}
	return p
}

// parts returns the IDs of the sightings of a day, smoke by smoke.
func (x *truth) parts(t *testing.T, d api.Day) [][]int {
	t.Helper()
	known, e := join.Sightings(d)
	mustBe(t, e, api.OK, "Sightings")
	var out [][]int
	for _, s := range x.smokes {
		ids := slices.DeleteFunc(slices.Clone(s.ids), func(id int) bool { return !slices.Contains(known, id) })
		if len(ids) > 0 {
			out = append(out, ids)
		}
	}
	slices.SortFunc(out, slices.Compare)
	return out
}

// In a season whose eyes, circles and reports are true, what is told is right.
func TestT10TheWhole(t *testing.T) {
	r := random(18)
	cells, pairs, sets := 0, 0, 0
	for range 400 {
		x := randomTruth(r)
		p := x.play(t, r)
		d, refused, e := season.Fold(x.s, p.Known(), p.Tick())
		if e != api.OK || len(refused) > 0 && len(d.Reports) < 7 {
			t.Fatal(refused, e)
		}
		parts := x.parts(t, d)
		for _, ids := range parts {
			s := x.smokes[slices.IndexFunc(x.smokes, func(s smoke) bool { return slices.Contains(s.ids, ids[0]) })]
			if a := p.Do(askCell(p.Tick(), ids...)); a.Err != api.OK || !slices.Contains(a.Places, s.at) {
				t.Fatal(ids, s, a)
			}
			cells++
		}
		// What is told of joins is right if there are as few smokes as can be.
		if n, _ := join.Fewest(d); n != len(parts) {
			continue
		}
		pairs += x.samePairs(t, p, parts)
		a := p.Do(askSmokes(p.Tick()))
		for _, ids := range a.Sets {
			if !slices.ContainsFunc(parts, func(s []int) bool { return slices.Equal(s, ids) }) {
				t.Fatal(a.Sets, "instead of", parts)
			}
			sets++
		}
	}
	counted(t, "cells", cells, 250)
	counted(t, "pairs", pairs, 150)
	counted(t, "smokes that are proved", sets, 150)
}

// samePairs ends a test if a verdict on two sightings is wrong, and returns how many there are.
func (x *truth) samePairs(t *testing.T, p *season.Play, parts [][]int) int {
	t.Helper()
	n := 0
	all := slices.Sorted(slices.Values(slices.Concat(parts...)))
	for i, a := range all {
		for _, b := range all[i+1:] {
			one := slices.ContainsFunc(parts, func(s []int) bool { return slices.Contains(s, a) && slices.Contains(s, b) })
			is := p.Do(askSame(p.Tick(), a, b)).Verdict.Answer
			if is == api.Yes && !one || is == api.No && one || is == 0 {
				t.Fatal(a, b, is, "of", parts)
			}
			n++
		}
	}
	return n
}
