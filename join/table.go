package join

import (
	"firetower/api"
	"firetower/cell"
)

// most is how many sets there are of as many sightings as a day has at most.
const most = 1<<api.MaxSightings - 1

// Table returns which sightings can be of one smoke, with places and reasons.
func Table(d api.Day) (api.Joins, api.Errno) {
	x, e := surveyed(d)
	if e != api.OK {
		return api.Joins{}, e
	}
	cells := x.cells()
	possible := func(s set) bool { return len(cells[s]) > 0 }
	var out api.Joins
	for s := range sets(len(x.ids)) {
		if possible(s) && x.greatest(s, possible) {
			out.Fits = append(out.Fits, api.Fit{IDs: x.listed(s), At: cells[s][0]})
		}
		if !possible(s) && x.smallest(s, possible) {
			out.Misfits = append(out.Misfits, api.Misfit{IDs: x.listed(s), Reasons: x.reasons(s)})
		}
	}
	return out, api.OK
}

// greatest reports whether a set with any one sighting more is not possible. Then none of which it is a part is.
func (x survey) greatest(s set, possible func(s set) bool) bool {
	for i := range x.ids {
		if more := s | 1<<i; more != s && possible(more) {
			return false
		}
	}
	return true
}

// smallest reports whether a set with any one sighting less is possible, if it still has one. Then all smaller parts of it are.
func (x survey) smallest(s set, possible func(s set) bool) bool {
	for i := range x.ids {
		if less := s &^ (1 << i); less != s && less != 0 && !possible(less) {
			return false
		}
	}
	return true
}

// reasons returns why a set that is not possible is not: nothing if its burn is too long.
func (x survey) reasons(s set) []api.Reason {
	b := x.burn(s)
	if x.long(b) {
		return nil
	}
	out, _ := cell.Reasons(x.day.Service, b, x.list(s))
	return out
}

// CheckTable returns OK if this is proved.
func CheckTable(d api.Day, j api.Joins) api.Errno {
	x, e := surveyed(d)
	if e != api.OK {
		return e
	}
	if len(j.Fits) > most || len(j.Misfits) > most {
		return api.ErrLimit
	}
	if !x.proved(j) {
		return api.ErrProof
	}
	return api.OK
}

// proved reports whether a table is proved.
func (x survey) proved(j api.Joins) bool {
	var fits, misfits []set
	for _, f := range j.Fits {
		s, e := x.setOf(f.IDs)
		if e != api.OK || !x.fits(s, f.At) {
			return false
		}
		fits = append(fits, s)
	}
	for _, m := range j.Misfits {
		s, e := x.setOf(m.IDs)
		if e != api.OK || !x.excluded(s, m.Reasons) {
			return false
		}
		misfits = append(misfits, s)
	}
	return complete(len(x.ids), fits, misfits)
}

// fits reports whether a place shows that a set is possible.
func (x survey) fits(s set, at api.Place) bool {
	b := x.burn(s)
	if x.long(b) {
		return false
	}
	for _, r := range x.list(s) {
		if is, _ := cell.Allows(x.day.Service, b, r, at); !is {
			return false
		}
	}
	return true
}

// excluded reports whether reasons show that a set is not possible.
func (x survey) excluded(s set, reasons []api.Reason) bool {
	b := x.burn(s)
	if x.long(b) {
		return len(reasons) == 0
	}
	return cell.CheckCell(x.day.Service, b, x.list(s), nil, reasons) == api.OK
}

// complete reports whether each set of n sightings is a part of a fit, or has a misfit as a part.
func complete(n int, fits, misfits []set) bool {
search:
	for s := range sets(n) {
		for _, f := range fits {
			if s.part(f) {
				continue search
			}
		}
		for _, m := range misfits {
			if m.part(s) {
				continue search
			}
		}
		return false
	}
	return true
}
