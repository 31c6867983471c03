package season_test

import (
	"fmt"
	"reflect"
	"slices"
	"testing"

	"firetower/api"
	"firetower/season"
)

// longer returns a list with more behind its end, and a function that says whether what lies there is still as it was.
func longer[T any](l []T) ([]T, func() bool) {
	var behind T
	long := append(slices.Clone(l), behind, behind, behind)
	kept := slices.Clone(long)
	return long[:len(l)], func() bool { return reflect.DeepEqual(long, kept) }
}

// arguments is all that functions are given.
type arguments struct {
	s       api.Script
	l       []api.Entered
	v       []api.Version
	replies []api.Reply
	book    []string
}

// given returns arguments that have something in each list.
func given(t *testing.T) arguments {
	t.Helper()
	s := script(session()...)
	s.Setting.Service.Country.Haze = []api.Haze{{From: 900, To: 901, Far: 3}}
	s.Commands = append(s.Commands, adopt(0, sources()[1]), tell(1, east(3, 10)), fetch(1), askSmokes(0), askSend(40, 0), askDuty(3, "north"), askOrder(5, 0))
	replies, _ := ran(t, s)
	l := []api.Entered{in(2, 1, 0, sight(6, 2, 30, 1350)), in(1, 3, 0, blank(7, 1, 50, 300, 500)), in(1, 2, 0, east(3, 10)), in(1, 1, 0, sight(5, 1, 20, 450)), in(1, 4, 0, back(9)), in(1, 9, 0, sight(8, 9, 9, 9))}
	return arguments{s, l, versions(t, sources()...), replies, slices.Repeat([]string{"5 x 3"}, 11)}
}

// use calls all functions with arguments.
func use(a arguments) {
	s := a.s.Setting
	season.CheckSetting(s)
	season.Check(a.s)
	season.Print(a.s)
	season.Fold(s, a.l, 5)
	season.Run(a.s)
	season.Transcript(a.s, a.replies)
	season.Accept(a.s, a.replies)
	season.Torn(a.book, 1, 2, 3)
	for i, q := range a.s.Commands {
		season.Answer(s, a.l, a.v, 5, q)
		season.CheckAnswer(s, a.l, a.v, 5, q, a.replies[i])
	}
	p, _ := season.New(s)
	for _, c := range a.s.Commands {
		p.Do(c)
	}
}

func TestArgumentsAreNotChanged(t *testing.T) {
	a := given(t)
	var kept []func() bool
	keep := func(is func() bool) { kept = append(kept, is) }
	x := &a.s.Setting
	var is func() bool
	x.Service.Country.Map.Ground, is = longer(x.Service.Country.Map.Ground)
	keep(is)
	x.Service.Country.Towers, is = longer(x.Service.Country.Towers)
	keep(is)
	x.Service.Country.Haze, is = longer(x.Service.Country.Haze)
	keep(is)
	x.Service.Circles.Circles, is = longer(x.Service.Circles.Circles)
	keep(is)
	x.Service.Circles.Checks, is = longer(x.Service.Circles.Checks)
	keep(is)
	x.Trails[1].Closed, is = longer(x.Trails[1].Closed)
	keep(is)
	x.Trails, is = longer(x.Trails)
	keep(is)
	x.Crews, is = longer(x.Crews)
	keep(is)
	for i := range a.s.Commands {
		a.s.Commands[i].IDs, is = longer(a.s.Commands[i].IDs)
		keep(is)
	}
	a.s.Commands, is = longer(a.s.Commands)
	keep(is)
	a.l, is = longer(a.l)
	keep(is)
	a.v, is = longer(a.v)
	keep(is)
	a.replies, is = longer(a.replies)
	keep(is)
	a.book, is = longer(a.book)
	keep(is)
	use(a)
	for i, is := range kept {
		if !is() {
			t.Error("changed:", i)
		}
	}
	if !same(a, given(t)) {
		t.Error("changed")
	}
}

// blot overwrites all that can be reached from a value, also behind the ends of slices.
func blot(v reflect.Value) {
	switch v.Kind() {
	case reflect.Slice:
		v = v.Slice(0, v.Cap())
		for i := range v.Len() {
			blot(v.Index(i))
		}
	case reflect.Struct:
		for i := range v.NumField() {
			blot(v.Field(i))
		}
	case reflect.Int:
		v.SetInt(-77)
	case reflect.Bool:
		v.SetBool(!v.Bool())
	case reflect.String:
		v.SetString("blot")
	}
}

// slicesOf returns the memory of all slices that can be reached from a value: where each one begins, and where it ends.
func slicesOf(v reflect.Value) [][2]uintptr {
	var out [][2]uintptr
	switch v.Kind() {
	case reflect.Slice:
		if v.Cap() > 0 {
			out = append(out, [2]uintptr{v.Pointer(), v.Pointer() + uintptr(v.Cap())*v.Type().Elem().Size()})
		}
		for i := range v.Len() {
			out = append(out, slicesOf(v.Index(i))...)
		}
	case reflect.Struct:
		for i := range v.NumField() {
			out = append(out, slicesOf(v.Field(i))...)
		}
	}
	return out
}

// fresh fails a test if a result is another one when it has been overwritten, if it shares memory with the arguments, or if its slices share memory.
func fresh[A, T any](t *testing.T, name string, arguments func() A, get func(a A) T) {
	t.Helper()
	a := arguments()
	// The text of a result shares no memory with it.
	want := fmt.Sprintf("%+v", get(arguments()))
	first := get(a)
	memory := slicesOf(reflect.ValueOf(first))
	if len(memory) == 0 {
		t.Error(name, "has no lists:", first)
	}
	for i, a := range memory {
		for _, b := range memory[:i] {
			if a[0] < b[1] && b[0] < a[1] {
				t.Error(name, "has slices that share memory")
			}
		}
	}
	blot(reflect.ValueOf(&first).Elem())
	if got := fmt.Sprintf("%+v", get(a)); !reflect.DeepEqual(a, arguments()) || got != want {
		t.Error(name, "shares memory:", got, "instead of", want)
	}
}

// told is a day with the entries that are refused.
type told struct {
	Day     api.Day
	Refused []api.Entered
}

func TestResultsAreNewMemory(t *testing.T) {
	all := func() arguments { return given(t) }
	fresh(t, "Torn", all, func(a arguments) []string { l, _ := season.Torn(a.book, 0, 3, 2); return l })
	fresh(t, "Torn of a whole page", all, func(a arguments) []string { l, _ := season.Torn(a.book, 0, 8, 99); return l })
	fresh(t, "Fold", all, func(a arguments) told { d, l, _ := season.Fold(a.s.Setting, a.l, 5); return told{d, l} })
	fresh(t, "Run", all, func(a arguments) []api.Reply { l, _ := season.Run(a.s); return l })
	fresh(t, "Transcript", all, func(a arguments) []string { l, _ := season.Transcript(a.s, a.replies); return l })
	fresh(t, "Parse", all, func(a arguments) api.Script {
		text, _ := season.Print(a.s)
		s, _ := season.Parse(text)
		return s
	})
	for _, q := range []api.Command{askCell(0, 5, 6), askSame(0, 5, 6), askSmokes(0), askSend(40, 0), askDuty(22, "south"), askOrder(5, 0)} {
		fresh(t, "Answer", all, func(a arguments) api.Reply { return season.Answer(a.s.Setting, a.l, a.v, 5, q) })
	}
}

// done returns a season in which the commands of arguments have been done.
func done(t *testing.T, a arguments) *season.Play {
	t.Helper()
	p := play(t, a.s.Setting)
	did(t, p, a.s.Commands...)
	return p
}

func TestPlaysShareNoMemory(t *testing.T) {
	p := done(t, given(t))
	ask := func() *season.Play { return p }
	fresh(t, "Book", ask, func(p *season.Play) []string { return p.Book(1) })
	fresh(t, "Copy", ask, func(p *season.Play) []string { return p.Copy(1) })
	fresh(t, "Mails", ask, (*season.Play).Mails)
	fresh(t, "Known", ask, (*season.Play).Known)
	fresh(t, "Versions", ask, (*season.Play).Versions)
	for _, q := range []api.Command{askCell(0, 5, 6), askSame(0, 5, 6), askSmokes(0), askSend(40, 0), askDuty(3, "north"), askOrder(5, 0)} {
		fresh(t, "Do", ask, func(p *season.Play) api.Reply { return p.Do(q) })
	}
}

// What is done with arguments later does not matter to a season; seasons do not know of each other.
func TestPlaysKeepNoArguments(t *testing.T) {
	a := given(t)
	p, clean := done(t, a), done(t, given(t))
	other := done(t, given(t))
	for _, x := range []any{&a.s, &a.l, &a.v, &a.replies, &a.book} {
		blot(reflect.ValueOf(x).Elem())
	}
	for _, c := range []api.Command{
		tell(2, sight(9, 2, 40, 1400)), fetch(2), tick(9), askCell(9, 5, 6), askSame(9, 5, 9), askSmokes(9), askSend(40, 9), askDuty(3, "north"), askOrder(5, 9), tearCopy(1, 0, 0, 0), fetch(1), askSmokes(9), adopt(9, sources()[3]),
	} {
		if got, want := p.Do(c), clean.Do(c); !same(got, want) {
			t.Error(c, got, "instead of", want)
		}
	}
	if !same(p.Known(), clean.Known()) || !same(p.Versions(), clean.Versions()) || !same(p.Mails(), clean.Mails()) {
		t.Error("seasons differ")
	}
	if other.Tick() != 0 || len(other.Book(2)) != 1 || len(other.Versions()) != 1 || !same(other.Do(askSmokes(9)), done(t, given(t)).Do(askSmokes(9))) {
		t.Error("seasons know of each other")
	}
}

// Questions change nothing in a season.
func TestQuestionsChangeNothing(t *testing.T) {
	r := random(19)
	for range 60 {
		s := randomScript(r, 60)
		quiet, asked := play(t, s.Setting), play(t, s.Setting)
		for _, c := range s.Commands {
			if c.Kind >= api.CoCell {
				asked.Do(c)
				continue
			}
			asked.Do(randomQuestion(r, quiet.Tick(), quiet.Tick()))
			if got, want := asked.Do(c), quiet.Do(c); !same(got, want) {
				t.Fatal(c, got, "instead of", want)
			}
		}
		if !same(quiet.Known(), asked.Known()) || !same(quiet.Mails(), asked.Mails()) || !same(quiet.Versions(), asked.Versions()) {
			t.Fatal("a question changed something")
		}
	}
}
