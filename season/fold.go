package season

import (
	"cmp"
	"slices"

	"firetower/api"
	"firetower/circle"
	"firetower/join"
)

// Fold returns the day that entries make together, with the checks of circles, and the entries that are refused.
func Fold(s api.Setting, l []api.Entered, known int) (api.Day, []api.Entered, api.Errno) {
	if e := CheckSetting(s); e != api.OK {
		return api.Day{}, nil, e
	}
	if e := checkEntries(s, l); e != api.OK {
		return api.Day{}, nil, e
	}
	d, refused := folded(s, l, known)
	return d, refused, api.OK
}

// spot is where an entry stands: in which tower's book, and in which line.
type spot struct{ tower, line int }

// checkEntries returns the first error of entries; the setting has been checked.
func checkEntries(s api.Setting, l []api.Entered) api.Errno {
	if len(l) > api.MaxPosts*api.MaxBookLine {
		return api.ErrLimit
	}
	taken := map[spot]bool{}
	for _, x := range l {
		if stationOf(s, x.Tower) < 0 || !within(x.Line, 1, api.MaxBookLine) || !isTick(x.Tick) || !formedEntry(x.Entry) {
			return api.ErrArg
		}
		at := spot{x.Tower, x.Line}
		if taken[at] {
			return api.ErrTwice
		}
		taken[at] = true
	}
	return api.OK
}

// folded returns what Fold does; the setting and the entries have been checked.
func folded(s api.Setting, l []api.Entered, known int) (api.Day, []api.Entered) {
	d := api.Day{Service: copiedService(s.Service), Rise: s.Rise, Long: s.Long}
	var refused []api.Entered
	l = counting(l, known)
	for _, x := range l {
		if x.Entry.Kind == api.EnMark && !putCheck(&d, x.Entry.Check) {
			refused = append(refused, x)
		}
	}
	// Reports come behind all marks, because what they say rests on all checks.
	for _, x := range l {
		r := x.Entry.Report
		r.Tower = x.Tower
		if x.Entry.Kind == api.EnReport && !putReport(&d, r) {
			refused = append(refused, x)
		}
	}
	return d, refused
}

// counting returns the entries that count at a minute, by tower and line.
func counting(l []api.Entered, known int) []api.Entered {
	back := map[spot]bool{}
	for _, x := range l {
		if x.Entry.Kind == api.EnBack && x.Tick <= known {
			back[spot{x.Tower, x.Entry.Line}] = true
		}
	}
	out := slices.DeleteFunc(slices.Clone(l), func(x api.Entered) bool {
		return x.Entry.Kind == api.EnBack || x.Tick > known || back[spot{x.Tower, x.Line}]
	})
	slices.SortFunc(out, func(a, b api.Entered) int {
		return cmp.Or(cmp.Compare(a.Tower, b.Tower), cmp.Compare(a.Line, b.Line))
	})
	return out
}

// putCheck puts a check behind those of a day, unless it cannot stand there, and reports whether it did.
func putCheck(d *api.Day, k api.Check) bool {
	c := &d.Service.Circles
	before := c.Checks
	c.Checks = append(before, k)
	pairs, e := circle.Clashes(*c)
	if e != api.OK || len(pairs) > 0 {
		c.Checks = before
		return false
	}
	return true
}

// putReport puts a report behind those of a day, unless it cannot stand there, and reports whether it did.
func putReport(d *api.Day, r api.Report) bool {
	before := d.Reports
	d.Reports = append(before, r)
	if join.Check(*d) != api.OK {
		d.Reports = before
		return false
	}
	return true
}
