package join

import (
	"cmp"
	"slices"

	"firetower/api"
	"firetower/cell"
)

// survey is a day that has been checked.
type survey struct {
	day     api.Day
	ids     []int               // of the sightings, in increasing order
	allowed map[int][]api.Place // by the ID of a report, what allows returned, if it was asked
}

// surveyed returns a survey of a day, or the day's first error.
func surveyed(d api.Day) (survey, api.Errno) {
	if e := Check(d); e != api.OK {
		return survey{}, e
	}
	return survey{day: d, allowed: map[int][]api.Place{}}.of(d.Reports), api.OK
}

// of returns a survey with some of the reports.
func (x survey) of(l []api.Report) survey {
	x.day.Reports, x.ids = l, nil
	for _, r := range l {
		if r.Kind == api.ReSight {
			x.ids = append(x.ids, r.ID)
		}
	}
	slices.Sort(x.ids)
	return x
}

// has reports whether an ID is that of a sighting.
func (x survey) has(id int) bool { return slices.Contains(x.ids, id) }

// setOf returns the set of some IDs, or the error of these.
func (x survey) setOf(ids []int) (set, api.Errno) {
	if len(ids) == 0 || !rising(ids, cmp.Compare[int]) {
		return 0, api.ErrArg
	}
	var out set
	for _, id := range ids {
		i := slices.Index(x.ids, id)
		if i < 0 {
			return 0, api.ErrNone
		}
		out |= 1 << i
	}
	return out, api.OK
}

// listed returns the IDs of a set.
func (x survey) listed(s set) []int {
	var out []int
	for i, id := range x.ids {
		if s&(1<<i) != 0 {
			out = append(out, id)
		}
	}
	return out
}

// told returns the IDs of some sets.
func (x survey) told(p []set) [][]int {
	var out [][]int
	for _, s := range p {
		out = append(out, x.listed(s))
	}
	return out
}

// list returns the sightings of a set and all blanks.
func (x survey) list(s set) []api.Report {
	ids := x.listed(s)
	return slices.DeleteFunc(slices.Clone(x.day.Reports), func(r api.Report) bool {
		return r.Kind == api.ReSight && !slices.Contains(ids, r.ID)
	})
}

// burn returns the time from the first to the last sighting of a set.
func (x survey) burn(s set) api.Burn {
	out, _ := cell.Least(x.list(s), x.day.Rise)
	return out
}

// long reports whether no smoke burns for so long a time.
func (x survey) long(b api.Burn) bool { return b.To-b.From > x.day.Long }

// allows returns the places that a report allows a smoke that burned at its minute, whatever the other minutes are at which it burned.
func (x survey) allows(r api.Report) []api.Place {
	out, known := x.allowed[r.ID]
	if !known {
		out, _ = cell.Places(x.day.Service, api.Burn{From: r.Tick, To: r.Tick, Rise: x.day.Rise}, []api.Report{r})
		x.allowed[r.ID] = out
	}
	return out
}

// cell returns the cell of a set; nothing if the set is not possible. Each report is asked alone, and only once for all sets: it says the same for each burn that has its minute, and a blank says nothing for the others.
func (x survey) cell(s set) []api.Place {
	b := x.burn(s)
	if x.long(b) {
		return nil
	}
	heard := slices.DeleteFunc(x.list(s), func(r api.Report) bool { return !within(r.Tick, b.From, b.To) })
	out := x.allows(heard[0])
	for _, r := range heard[1:] {
		out = common(out, x.allows(r), byRows)
	}
	return out
}

// byRows compares places by Y, and then by X.
func byRows(a, b api.Place) int { return cmp.Or(cmp.Compare(a.Y, b.Y), cmp.Compare(a.X, b.X)) }

// possible reports whether a set is possible.
func (x survey) possible(s set) bool { return len(x.cell(s)) > 0 }

// cells returns the cells of all sets that are possible.
func (x survey) cells() map[set][]api.Place {
	out := map[set][]api.Place{}
	for s := range sets(len(x.ids)) {
		// A set is not possible if a part of it is not.
		if begin := s.beginning(); begin != 0 && len(out[begin]) == 0 {
			continue
		}
		if c := x.cell(s); len(c) > 0 {
			out[s] = c
		}
	}
	return out
}
