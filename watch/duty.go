package watch

import (
	"cmp"
	"maps"
	"slices"

	"firetower/api"
)

// board is who watches what on a day, as far as the lines have been read.
type board struct {
	day    int
	duties map[api.Duty]bool
}

func (b *board) watch(l api.Line) {
	b.duties[api.Duty{Day: b.day, Tower: l.Tower, Person: l.Person}] = true
}

func (b *board) rest(l api.Line) {
	maps.DeleteFunc(b.duties, func(d api.Duty, _ bool) bool { return d.Person == l.Person })
}

func (b *board) cancel(l api.Line) {
	maps.DeleteFunc(b.duties, func(d api.Duty, _ bool) bool { return d.Tower == l.Tower })
}

func (b *board) swap(l api.Line) {
	swapped := map[api.Duty]bool{}
	for d := range b.duties {
		switch d.Person {
		case l.Person:
			d.Person = l.Other
		case l.Other:
			d.Person = l.Person
		}
		swapped[d] = true
	}
	b.duties = swapped
}

// isFor reports whether a line is for a day.
func isFor(l api.Line, day int) bool {
	return within(day, l.From, l.To) && (day-l.From)%l.Every == 0 && !slices.Contains(l.Except, day)
}

// dutiesOf returns the duties of a day, by tower and person.
func dutiesOf(w api.Watch, day int) []api.Duty {
	b := &board{day: day, duties: map[api.Duty]bool{}}
	kinds := [...]func(api.Line){api.LiWatch: b.watch, api.LiRest: b.rest, api.LiCancel: b.cancel, api.LiSwap: b.swap}
	for _, l := range w.Lines {
		if isFor(l, day) {
			kinds[l.Kind](l)
		}
	}
	return slices.SortedFunc(maps.Keys(b.duties), byTower)
}

// byTower compares duties by tower, and then by person.
func byTower(a, b api.Duty) int {
	return cmp.Or(cmp.Compare(a.Tower, b.Tower), cmp.Compare(a.Person, b.Person))
}

// byPerson compares duties by person, and then by tower.
func byPerson(a, b api.Duty) int {
	return cmp.Or(cmp.Compare(a.Person, b.Person), cmp.Compare(a.Tower, b.Tower))
}

// Duties returns who watches what on a day.
func Duties(w api.Watch, day int) ([]api.Duty, api.Errno) {
	if e := Check(w); e != api.OK {
		return nil, e
	}
	if !isDay(day) {
		return nil, api.ErrArg
	}
	return dutiesOf(w, day), api.OK
}

// Who returns who watches a tower on a day.
func Who(w api.Watch, day int, tower string) ([]string, api.Errno) {
	if e := Check(w); e != api.OK {
		return nil, e
	}
	if !isDay(day) || !isName(tower) {
		return nil, api.ErrArg
	}
	var out []string
	for _, d := range dutiesOf(w, day) {
		if d.Tower == tower {
			out = append(out, d.Person)
		}
	}
	return out, api.OK
}
