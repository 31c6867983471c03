package season_test

import (
	"slices"
	"testing"

	"firetower/api"
	"firetower/season"
)

// session returns the commands of the chapter's example.
func session() []api.Command {
	return []api.Command{
		tell(1, sight(5, 1, 20, 450)), tell(2, sight(6, 2, 30, 1350)), mail(1), mail(2), askCell(0, 5, 6), fetch(1), tear(1, 0, 0, 0), askSame(0, 5, 6),
	}
}

// ran returns the replies of Run, and their transcript.
func ran(t *testing.T, s api.Script) ([]api.Reply, []string) {
	t.Helper()
	l, e := season.Run(s)
	mustBe(t, e, api.OK, "Run")
	lines, e := season.Transcript(s, l)
	mustBe(t, e, api.OK, "Transcript")
	return l, lines
}

func TestP10_9Example(t *testing.T) {
	_, lines := ran(t, script(session()...))
	if !slices.Equal(lines, []string{"line 1", "line 1", "ok", "ok", "cell 1 10 10", "new 0", "ok", "yes"}) {
		t.Errorf("%q", lines)
	}
	if l, lines := ran(t, script()); len(l) > 0 || len(lines) > 0 {
		t.Error(l, lines)
	}
}

func TestP10_9Run(t *testing.T) {
	r := random(12)
	for range 100 {
		s := randomScript(r, 100)
		l, e := season.Run(s)
		if e != api.OK || len(l) != 100 {
			t.Fatal(len(l), e)
		}
		p := play(t, s.Setting)
		for i, c := range s.Commands {
			if want := p.Do(c); !same(l[i], want) {
				t.Fatal(c, l[i], "instead of", want)
			}
		}
	}
}

func TestP10_9RunErrors(t *testing.T) {
	for _, c := range wrongCommands() {
		if l, e := season.Run(script(tick(1), c)); len(l) > 0 || e != api.ErrArg {
			t.Error(c, l, e)
		}
	}
	if l, e := season.Run(script(make([]api.Command, 101)...)); len(l) > 0 || e != api.ErrLimit {
		t.Error(l, e)
	}
}

// full returns a reply with something in each field.
func full() api.Reply {
	return api.Reply{
		N: 7, Places: []api.Place{at(3, 4), at(-1, 99)}, Reasons: []api.Reason{{Report: 3}}, Joins: api.Joins{Fits: []api.Fit{{IDs: []int{1}}}},
		Verdict: api.Verdict{Answer: api.Yes, Together: [][]int{{1}}}, Sets: [][]int{{5, 6}, {}, {7}},
		Plan: api.Plan{Sends: []api.Send{{Crew: 1, Blaze: 2}, {Crew: -3, Blaze: 0}}, Sum: -56, Crews: []int{1}}, Names: []string{"ann", "ben"}, Name: "send",
	}
}

func TestP10_10Lines(t *testing.T) {
	want := []string{
		"ok", "line 7", "ok", "ok", "ok", "ok", "ok", "new 7", "ok", "cell 2 3 4 -1 99", "yes", "smokes 3 2 5 6 0 1 7", "send -56 1 2 -3 0", "duty ann ben", "order send",
	}
	empty := []string{"ok", "line 0", "ok", "ok", "ok", "ok", "ok", "new 0", "ok", "cell 0", "open", "smokes 0", "send 0", "duty", "order"}
	s := script(one()...)
	for _, x := range []struct {
		r    api.Reply
		want []string
	}{
		{full(), want}, {api.Reply{}, empty},
		{api.Reply{Err: api.ErrCells}, slices.Repeat([]string{"error 80"}, 15)}, {api.Reply{Err: -4}, slices.Repeat([]string{"error -4"}, 15)},
	} {
		if lines, e := season.Transcript(s, slices.Repeat([]api.Reply{x.r}, 15)); !slices.Equal(lines, x.want) || e != api.OK {
			t.Errorf("%q %d instead of %q", lines, e, x.want)
		}
		r := x.r
		r.Err = api.ErrClash
		if lines, e := season.Transcript(s, slices.Repeat([]api.Reply{r}, 15)); !slices.Equal(lines, slices.Repeat([]string{"error 9"}, 15)) || e != api.OK {
			t.Errorf("%q %d", lines, e)
		}
	}
	for is, want := range map[api.Answer]string{api.No: "no", api.Yes: "yes", api.Open: "open", 0: "open", 4: "open", -1: "open"} {
		if lines, e := season.Transcript(script(askSame(0, 5, 6)), []api.Reply{{Verdict: api.Verdict{Answer: is}}}); !slices.Equal(lines, []string{want}) || e != api.OK {
			t.Error(is, lines, e)
		}
	}
}

func TestP10_10Errors(t *testing.T) {
	right := make([]api.Reply, 2)
	for _, l := range [][]api.Reply{nil, right[:1], make([]api.Reply, 3)} {
		if lines, e := season.Transcript(script(tick(1), tick(2)), l); len(lines) > 0 || e != api.ErrForm {
			t.Error(len(l), lines, e)
		}
		for _, c := range wrongCommands() {
			if lines, e := season.Transcript(script(tick(1), c), l); len(lines) > 0 || e != api.ErrArg {
				t.Error(c, lines, e)
			}
		}
		if lines, e := season.Transcript(script(make([]api.Command, 101)...), l); len(lines) > 0 || e != api.ErrLimit {
			t.Error(lines, e)
		}
	}
}

func TestP10_10Random(t *testing.T) {
	r := random(13)
	for range 100 {
		s := randomScript(r, 60)
		l, e := season.Run(s)
		mustBe(t, e, api.OK, "Run")
		for i := range l {
			if r.IntN(4) == 0 {
				l[i] = spoil(r, l[i])
			}
		}
		lines, e := season.Transcript(s, l)
		mustBe(t, e, api.OK, "Transcript")
		for i, c := range s.Commands {
			if want := plainReply(c, l[i]); lines[i] != want {
				t.Fatal(c, lines[i], "instead of", want)
			}
		}
	}
}

func TestP10_13Example(t *testing.T) {
	s := script(session()...)
	l, _ := ran(t, s)
	if e, n := season.Accept(s, l); e != api.OK || n != -1 {
		t.Error(e, n)
	}
	for i, x := range []struct {
		at int
		do func(r *api.Reply)
	}{
		{0, func(r *api.Reply) { r.N = 2 }},
		{0, func(r *api.Reply) { r.Err = api.ErrLimit }},
		{1, func(r *api.Reply) { *r = api.Reply{} }},
		{2, func(r *api.Reply) { r.Err = api.ErrNone }},
		{3, func(r *api.Reply) { r.N = 1 }},
		{4, func(r *api.Reply) { r.Places = nil }},
		{4, func(r *api.Reply) { r.Reasons = r.Reasons[1:] }},
		{4, func(r *api.Reply) { r.N = 1 }},
		{4, func(r *api.Reply) { *r = api.Reply{Err: api.ErrNone} }},
		{5, func(r *api.Reply) { r.N = 1 }},
		{6, func(r *api.Reply) { r.Name = "ok" }},
		{7, func(r *api.Reply) { r.Verdict.Answer = api.No }},
		{7, func(r *api.Reply) { r.Joins.Fits = nil }},
		{7, func(r *api.Reply) { *r = api.Reply{Err: api.ErrClash} }},
		{7, func(r *api.Reply) { r.Err = api.ErrProof }},
	} {
		other := slices.Clone(l)
		x.do(&other[x.at])
		if e, n := season.Accept(s, other); e != api.ErrProof || n != x.at {
			t.Error(i, e, n)
		}
		// The first one counts.
		other[7].N++
		if e, n := season.Accept(s, other); e != api.ErrProof || n != x.at {
			t.Error(i, e, n)
		}
	}
}

// What is known, the versions and the time are followed: each question is checked by those behind the commands before it.
func TestP10_13Follows(t *testing.T) {
	s := script(
		tell(1, sight(5, 1, 20, 450)), askSmokes(9), mail(1), askSmokes(9), adopt(0, "order new if age <= 100;\norder old if age > 100;\n"), askOrder(5, 9), tick(500), askOrder(5, 9),
		adopt(1, "order last if hour = 0;\n"), askOrder(5, 9), tick(1440), askOrder(5, 9), tell(2, sight(6, 2, 30, 1350)), fetch(2), askSmokes(1439), askSmokes(1440), tearCopy(1, 0, 0, 0), askSmokes(1440),
	)
	l, lines := ran(t, s)
	want := []string{
		"line 1", "smokes 0", "ok", "smokes 1 1 5", "ok", "order new", "ok", "order old", "ok", "order old", "ok", "order last", "line 1", "new 1", "smokes 1 1 5", "smokes 1 2 5 6", "ok", "smokes 1 1 6",
	}
	if !slices.Equal(lines, want) {
		t.Errorf("%q instead of %q", lines, want)
	}
	if e, n := season.Accept(s, l); e != api.OK || n != -1 {
		t.Error(e, n)
	}
	for i := range l {
		for k := range l {
			other := slices.Clone(l)
			other[i] = l[k]
			want := -1
			if !same(l[i], l[k]) {
				want = i
			}
			if e, n := season.Accept(s, other); n != want || e != api.OK && e != api.ErrProof {
				t.Error(i, k, e, n)
			}
		}
	}
}

// A reply to what is no question has nothing else than that of Do.
func TestP10_13OtherFields(t *testing.T) {
	s := script(tell(1, back(1)), tick(0), tick(5), tick(4), fetch(1), fetch(3))
	l, _ := ran(t, s)
	for i := range l {
		for k, do := range spoils() {
			other := slices.Clone(l)
			do(&other[i])
			if e, n := season.Accept(s, other); e != api.ErrProof || n != i {
				t.Error(i, k, e, n)
			}
		}
		other := slices.Clone(l)
		other[i].Places, other[i].Sets, other[i].Names, other[i].Plan.Sends = []api.Place{}, [][]int{}, []string{}, []api.Send{}
		if e, n := season.Accept(s, other); e != api.OK || n != -1 {
			t.Error(i, e, n)
		}
	}
}

// spoils returns changes by each of which a reply has something that it must not have.
func spoils() []func(r *api.Reply) {
	return []func(r *api.Reply){
		func(r *api.Reply) { r.Err++ },
		func(r *api.Reply) { r.Err = -1 },
		func(r *api.Reply) { r.N++ },
		func(r *api.Reply) { r.Places = append(slices.Clone(r.Places), at(0, 0)) },
		func(r *api.Reply) { r.Reasons = append(slices.Clone(r.Reasons), api.Reason{}) },
		func(r *api.Reply) { r.Joins.Fits = append(slices.Clone(r.Joins.Fits), api.Fit{}) },
		func(r *api.Reply) { r.Joins.Misfits = append(slices.Clone(r.Joins.Misfits), api.Misfit{}) },
		func(r *api.Reply) { r.Verdict.Answer += 4 },
		func(r *api.Reply) { r.Verdict.Together = append(slices.Clone(r.Verdict.Together), nil) },
		func(r *api.Reply) { r.Verdict.Apart = append(slices.Clone(r.Verdict.Apart), nil) },
		func(r *api.Reply) { r.Sets = append(slices.Clone(r.Sets), nil) },
		func(r *api.Reply) { r.Plan.Sends = append(slices.Clone(r.Plan.Sends), api.Send{}) },
		func(r *api.Reply) { r.Plan.Sum++ },
		func(r *api.Reply) { r.Plan.Crews = append(slices.Clone(r.Plan.Crews), 0) },
		func(r *api.Reply) { r.Plan.Blazes = append(slices.Clone(r.Plan.Blazes), 0) },
		func(r *api.Reply) { r.Names = append(slices.Clone(r.Names), "") },
		func(r *api.Reply) { r.Name += "x" },
	}
}

func TestP10_13Errors(t *testing.T) {
	for _, l := range [][]api.Reply{nil, make([]api.Reply, 1), make([]api.Reply, 3), {{N: 1}, {N: 2}, {}}} {
		if e, n := season.Accept(script(tick(1), tick(2)), l); e != api.ErrForm || n != -1 {
			t.Error(len(l), e, n)
		}
	}
	for _, l := range [][]api.Reply{nil, make([]api.Reply, 2), {{N: 1}, {N: 2}}} {
		for _, c := range wrongCommands() {
			if e, n := season.Accept(script(tick(1), c), l); e != api.ErrArg || n != -1 {
				t.Error(c, e, n)
			}
		}
		if e, n := season.Accept(script(make([]api.Command, 101)...), l); e != api.ErrLimit || n != -1 {
			t.Error(e, n)
		}
	}
	if e, n := season.Accept(script(), nil); e != api.OK || n != -1 {
		t.Error(e, n)
	}
}

func TestP10_16RunsAreAccepted(t *testing.T) {
	r := random(14)
	for range 300 {
		s := randomScript(r, r.IntN(101))
		l, e := season.Run(s)
		mustBe(t, e, api.OK, "Run")
		if e, n := season.Accept(s, l); e != api.OK || n != -1 {
			t.Fatal(s.Commands[max(n, 0)], l[max(n, 0)], e, n)
		}
	}
}

// Of replies that are spoiled just those are accepted that the plain version finds right.
func TestP10_13SpoiledReplies(t *testing.T) {
	r := random(15)
	accepted, refused := 0, 0
	for range 600 {
		s := randomScript(r, 50)
		l, e := season.Run(s)
		mustBe(t, e, api.OK, "Run")
		for range 1 + r.IntN(3) {
			i := r.IntN(len(l))
			l[i] = spoil(r, l[i])
		}
		want := firstWrong(t, s, l)
		e, n := season.Accept(s, l)
		if n != want || e == api.OK && n != -1 || e != api.OK && e != api.ErrProof {
			t.Fatal(e, n, "instead of", want)
		}
		if e == api.OK {
			accepted++
		} else {
			refused++
		}
	}
	counted(t, "spoiled replies that are right", accepted, 10)
	counted(t, "spoiled replies that are wrong", refused, 200)
}

// firstWrong returns the index of the first reply that is not right; -1 if all are.
func firstWrong(t *testing.T, s api.Script, l []api.Reply) int {
	t.Helper()
	p := newPlain(t, s.Setting)
	for i, c := range s.Commands {
		if c.Kind >= api.CoCell {
			if !plainProved(asked{s.Setting, p.known(), p.versions, p.world.Tick(), c}, l[i]) {
				return i
			}
		} else if !same(l[i], p.do(c)) {
			return i
		}
	}
	return -1
}
