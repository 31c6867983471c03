package season_test

import (
	"math/rand/v2"
	"slices"
	"testing"

	"firetower/api"
	"firetower/join"
	"firetower/season"
)

func TestP10_12Answers(t *testing.T) {
	for _, a := range questions(t) {
		r := a.answer()
		if r.Err != api.OK {
			t.Error(a.q, r.Err)
		}
		if e := a.check(r); e != api.OK {
			t.Error(a.q, e)
		}
		// Lists without elements are the same, whether they are nil or not.
		if len(r.Places) == 0 && a.q.Kind != api.CoCell {
			r.Places, r.Reasons, r.Plan.Blazes = []api.Place{}, []api.Reason{}, slices.Concat(r.Plan.Blazes, []int{})
		}
		if e := a.check(r); e != api.OK {
			t.Error(a.q, e)
		}
	}
}

// Whatever is changed in a reply that has no freedom left makes it wrong.
func TestP10_12SpoiledAnswers(t *testing.T) {
	for _, a := range questions(t) {
		for i, do := range spoils() {
			r := a.answer()
			do(&r)
			if e := a.check(r); e != api.ErrProof {
				t.Error(a.q, i, e)
			}
			if e := a.check(api.Reply{}); e != api.ErrProof {
				t.Error(a.q, e)
			}
		}
	}
}

// What is told is just what Answer tells, not only as much.
func TestP10_12OtherAnswers(t *testing.T) {
	l := questions(t)
	for _, x := range []struct {
		a  asked
		do func(r *api.Reply)
	}{
		{l[0], func(r *api.Reply) { r.Places[0], r.Reasons[0].At = r.Reasons[0].At, r.Places[0] }},
		{l[0], func(r *api.Reply) { r.Places[0].X++ }},
		{l[0], func(r *api.Reply) { r.Reasons[0], r.Reasons[1] = r.Reasons[1], r.Reasons[0] }},
		{l[1], func(r *api.Reply) { r.Verdict.Answer = api.Open }},
		{l[1], func(r *api.Reply) { r.Verdict = api.Verdict{Answer: api.No, Apart: [][]int{{4}, {5}, {6}}} }},
		{l[2], func(r *api.Reply) { r.Sets[0], r.Sets[1] = r.Sets[1], r.Sets[0] }},
		{l[2], func(r *api.Reply) { r.Sets[1][1] = 7 }},
		{l[2], func(r *api.Reply) { r.Sets[1] = r.Sets[1][:1] }},
		{l[3], func(r *api.Reply) { r.Sets[1][1] = 7 }},
		{l[3], func(r *api.Reply) { r.Plan.Sends[0].Crew, r.Plan.Sends[1].Crew = 1, 0 }},
		{l[3], func(r *api.Reply) {
			r.Plan.Sends[0].Blaze, r.Plan.Sends[1].Blaze = r.Plan.Sends[1].Blaze, r.Plan.Sends[0].Blaze
		}},
		{l[4], func(r *api.Reply) { r.Names[0] = "ben" }},
		{l[5], func(r *api.Reply) { r.Name = "far" }},
		{l[5], func(r *api.Reply) { r.Name = "" }},
	} {
		r := x.a.answer()
		if e := x.a.check(r); e != api.OK {
			t.Error(x.a.q, r.Err, e)
		}
		x.do(&r)
		if e := x.a.check(r); e != api.ErrProof {
			t.Error(x.a.q, r, e)
		}
	}
}

// A reply with an error has nothing else, and just the error that Answer has.
func TestP10_12Errors(t *testing.T) {
	l := []asked{about(askCell(0, 5, 9)), about(askSame(0, 5, 9)), {s: flat(), q: askDuty(3, "north")}, about(askOrder(9, 0))}
	for _, q := range []api.Command{askSame(0, 5, 6), askSmokes(0), askSend(0, 0), askOrder(5, 0)} {
		l = append(l, about(q, in(1, 9, 0, sight(8, 1, 25, 2700))))
	}
	for _, a := range l {
		r := a.answer()
		if r.Err == api.OK {
			t.Error(a.q, r)
		}
		for e := api.Errno(-1); e < 12; e++ {
			want := api.ErrProof
			if e == r.Err {
				want = api.OK
			}
			if got := a.check(api.Reply{Err: e}); got != want {
				t.Error(a.q, e, got)
			}
		}
		for i, do := range spoils() {
			r := a.answer()
			do(&r)
			if e := a.check(r); e != api.ErrProof {
				t.Error(a.q, i, e)
			}
		}
	}
}

// The errors of Answer up to those of versions are errors of CheckAnswer, whatever the reply is; those of the entries are not.
func TestP10_12ErrorsFirst(t *testing.T) {
	for _, a := range questions(t) {
		right := a.answer()
		for _, x := range []struct {
			e  api.Errno
			do func(a *asked)
		}{
			{api.ErrArg, func(a *asked) { a.now = -1; a.s.Wait = 0; a.v = make([]api.Version, 21) }},
			{api.ErrArg, func(a *asked) { a.now = 1<<20 + 1; trailTwice(&a.s) }},
			{api.ErrArg, func(a *asked) { a.q = mail(1); trailTwice(&a.s) }},
			{api.ErrTwice, func(a *asked) { trailTwice(&a.s); a.v = make([]api.Version, 21) }},
			{api.ErrLimit, func(a *asked) { a.v = make([]api.Version, 21) }},
		} {
			b := a
			b.s = flat()
			x.do(&b)
			for _, r := range []api.Reply{right, {}, {Err: x.e}, b.answer(), full()} {
				if e := b.check(r); e != x.e {
					t.Error(a.q, e, "instead of", x.e)
				}
			}
		}
		b := a
		b.l = make([]api.Entered, 641)
		if b.q.Kind == api.CoDuty {
			continue
		}
		if e := b.check(api.Reply{Err: api.ErrLimit}); e != api.OK {
			t.Error(a.q, e)
		}
		if e := b.check(right); e != api.ErrProof {
			t.Error(a.q, e)
		}
	}
}

// Any report that excludes a place will do as its reason.
func TestP10_12OtherReasons(t *testing.T) {
	a := about(askCell(0, 5, 6))
	r := a.answer()
	for i, x := range r.Reasons {
		// Each report allows its own diagonal alone.
		p, want := x.At, api.OK
		if p.X == p.Y && p.X > 0 || p.X == 20-p.Y && p.Y > 0 {
			want = api.ErrProof
		}
		r.Reasons[i].Report = 11 - x.Report
		if e := a.check(r); e != want {
			t.Error(x, e, "instead of", want)
		}
		if want != api.OK {
			r.Reasons[i].Report = x.Report
		}
	}
	if e := a.check(r); e != api.OK || same(r, a.answer()) {
		t.Error(e)
	}
	for _, report := range []int{0, 7, -5} {
		r.Reasons[0].Report = report
		if e := a.check(r); e != api.ErrProof {
			t.Error(report, e)
		}
	}
}

// Any table will do that is proved.
func TestP10_12OtherTables(t *testing.T) {
	one := func(p api.Place) func(j *api.Joins) {
		return func(j *api.Joins) { j.Fits = append(j.Fits, api.Fit{IDs: []int{2}, At: p}) }
	}
	a := open(askSame(0, 1, 2))
	a.v = versions(t, sources()[1])
	for _, q := range []api.Command{askSame(0, 1, 2), askSmokes(0), askSend(40, 0)} {
		a.q = q
		for i, x := range []struct {
			e  api.Errno
			do func(j *api.Joins)
		}{
			{api.OK, one(at(17, 3))},
			{api.ErrProof, one(at(17, 4))},
			{api.OK, func(j *api.Joins) { j.Fits[0], j.Fits[1] = j.Fits[1], j.Fits[0] }},
			{api.OK, func(j *api.Joins) { j.Misfits = append(j.Misfits, api.Misfit{IDs: []int{1, 2, 3}}) }},
			{api.ErrProof, func(j *api.Joins) { j.Misfits = append(j.Misfits, api.Misfit{IDs: []int{1, 2}}) }},
			{api.ErrProof, func(j *api.Joins) { j.Misfits = nil }},
			{api.ErrProof, func(j *api.Joins) { j.Fits = j.Fits[1:] }},
			{api.ErrProof, func(j *api.Joins) { j.Fits = slices.Repeat(j.Fits, 64) }},
			{api.OK, func(j *api.Joins) { j.Fits = slices.Repeat(j.Fits, 63) }},
		} {
			r := a.answer()
			x.do(&r.Joins)
			if e := a.check(r); e != x.e {
				t.Error(q, i, e, "instead of", x.e)
			}
		}
	}
}

// Of an order the table has to be proved, too.
func TestP10_12TableOfAnOrder(t *testing.T) {
	a := questions(t)[5]
	r := a.answer()
	r.Joins.Misfits = nil
	if e := a.check(r); e != api.ErrProof {
		t.Error(e)
	}
	r = a.answer()
	r.Joins.Fits = append(r.Joins.Fits, api.Fit{IDs: []int{6}, At: at(17, 3)})
	if e := a.check(r); e != api.OK {
		t.Error(e)
	}
}

// Any partitions will do that show the verdict.
func TestP10_12OtherPartitions(t *testing.T) {
	a := open(askSame(0, 1, 2))
	together, apart := [][]int{{1, 2}, {3}}, [][]int{{1}, {2, 3}}
	for i, x := range []struct {
		together, apart [][]int
		e               api.Errno
	}{
		{together, apart, api.OK}, {apart, together, api.ErrProof}, {together, together, api.ErrProof}, {apart, apart, api.ErrProof}, {nil, apart, api.ErrProof},
		{together, nil, api.ErrProof}, {together, [][]int{{1}, {2}, {3}}, api.ErrProof}, {[][]int{{3}, {1, 2}}, apart, api.ErrProof},
	} {
		r := a.answer()
		r.Verdict.Together, r.Verdict.Apart = x.together, x.apart
		if e := a.check(r); e != x.e {
			t.Error(i, e, "instead of", x.e)
		}
	}
	// With a fourth sighting, which is alone or with 3, there are other partitions than the first ones.
	a.l = append(a.l, in(1, 5, 0, sight(4, 1, 400, 450)), in(2, 5, 0, sight(5, 2, 450, 1350)), in(1, 6, 0, sight(6, 1, 500, 450)))
	r := a.answer()
	for _, p := range [][][]int{{{1, 2}, {3}, {4, 5}, {6}}, {{1, 2}, {3}, {4}, {5, 6}}} {
		r.Verdict.Together = p
		if e := a.check(r); e != api.OK {
			t.Error(p, e)
		}
	}
}

// Any numbers will do that prove a plan.
func TestP10_12OtherPrices(t *testing.T) {
	a := about(askSend(40, 0))
	r := a.answer()
	g := 1<<28 - 56
	for _, x := range []struct {
		crews, blazes []int
		e             api.Errno
	}{
		{[]int{0, 0}, []int{g}, api.OK}, {[]int{100, 0}, []int{g - 100}, api.OK}, {[]int{184, 0}, []int{g - 184}, api.OK}, {[]int{185, 0}, []int{g - 185}, api.ErrProof},
		{[]int{0, 1}, []int{g - 1}, api.ErrProof}, {[]int{g, 0}, []int{0}, api.ErrProof}, {[]int{0}, []int{g}, api.ErrProof}, {[]int{0, 0}, []int{g + 1}, api.ErrProof},
		{[]int{-1, 0}, []int{g + 1}, api.ErrProof},
	} {
		r.Plan.Crews, r.Plan.Blazes = x.crews, x.blazes
		if e := a.check(r); e != x.e {
			t.Error(x, e)
		}
	}
}

// Replies to questions that are spoiled at random are proved just if the plain version says so; what is accepted is what Answer returns, but for proofs.
func TestP10_19Answers(t *testing.T) {
	r := random(17)
	accepted, others, refused := 0, 0, 0
	for range 6000 {
		a := randomAsked(r)
		right := a.answer()
		if e := a.check(right); e != api.OK {
			t.Fatalf("%+v: %d", a, e)
		}
		x := rewritten(r, a, spoil(r, right))
		e := a.check(x)
		if (e == api.OK) != plainProved(a, x) || e != api.OK && e != api.ErrProof {
			t.Fatalf("%+v: %+v: %d", a, x, e)
		}
		if e != api.OK {
			refused++
			continue
		}
		accepted++
		if !same(x, right) {
			others++
		}
		if x.Err != right.Err || !same(x.Places, right.Places) || x.Verdict.Answer != right.Verdict.Answer || !same(x.Sets, right.Sets) || x.Plan.Sum != right.Plan.Sum ||
			!same(x.Names, right.Names) || x.Name != right.Name || len(x.Plan.Sends) != len(right.Plan.Sends) {
			t.Fatalf("%+v: %+v instead of %+v", a, x, right)
		}
	}
	counted(t, "replies that are accepted", accepted, 800)
	counted(t, "other proofs that are accepted", others, 60)
	counted(t, "replies that are refused", refused, 2000)
}

// rewritten returns a reply that has, sometimes, other proofs.
func rewritten(r *rand.Rand, a asked, x api.Reply) api.Reply {
	if r.IntN(2) == 0 {
		x = a.answer()
	}
	if e := plainEntries(a.s, a.l); e != api.OK || x.Err != api.OK {
		return x
	}
	d, _ := plainFold(a.s, a.l, a.q.Known)
	ids, _ := join.Sightings(d)
	for i := range x.Reasons {
		if r.IntN(3) == 0 && len(d.Reports) > 0 {
			x.Reasons[i].Report = d.Reports[r.IntN(len(d.Reports))].ID
		}
	}
	for _, id := range ids {
		if places, _ := join.Cell(d, []int{id}); len(places) > 0 && len(x.Joins.Fits) > 0 && r.IntN(2) == 0 {
			x.Joins.Fits = append(x.Joins.Fits, api.Fit{IDs: []int{id}, At: places[r.IntN(len(places))]})
		}
	}
	if len(x.Plan.Crews) > 0 && len(x.Plan.Blazes) > 0 && r.IntN(2) == 0 {
		n := r.IntN(9) - 4
		x.Plan.Crews = slices.Clone(x.Plan.Crews)
		x.Plan.Crews[0] += n
		x.Plan.Blazes = slices.Clone(x.Plan.Blazes)
		x.Plan.Blazes[0] -= n
	}
	if v := x.Verdict; v.Answer == api.Open && r.IntN(2) == 0 {
		n, _ := join.Fewest(d)
		l, _ := join.Partitions(d, n)
		x.Verdict.Together, x.Verdict.Apart = l[r.IntN(len(l))], l[r.IntN(len(l))]
	}
	return x
}

// A reply is proved by what is known, not by what else there is.
func TestP10_12OtherKnowledge(t *testing.T) {
	r := about(askCell(0, 5, 6)).answer()
	a := asked{s: flat(), l: example()[:1], q: askCell(0, 5, 6)}
	if e := a.check(r); e != api.ErrProof {
		t.Error(e)
	}
	if e := season.CheckAnswer(flat(), example(), nil, 5, askCell(0, 5, 6), r); e != api.OK {
		t.Error(e)
	}
}
