package cell

import "firetower/api"

// Behind returns how many places of the cell would be left behind a look.
func Behind(s api.Service, b api.Burn, l []api.Report, x api.Look) (api.Found, api.Errno) {
	q, e := inquire(s, b, l)
	if e != api.OK {
		return api.Found{}, e
	}
	return q.behind(q.cell(), x)
}

// behind returns how many places of a cell would be left behind a look.
func (q inquiry) behind(cell set, x api.Look) (api.Found, api.Errno) {
	r := api.Report{ID: 1, Kind: api.ReBlank, Tower: x.Tower, Circle: x.Circle, Tick: x.Tick, From: x.From, To: x.To, Slack: x.Slack}
	v, zeros, e := viewOf(q.service, r)
	if e != api.OK {
		return api.Found{}, e
	}
	seen, ok := possibly(v, zeros)
	if !ok {
		return api.Found{}, api.ErrWide
	}
	return api.Found{Seen: q.left(seen, cell).count(), Blank: q.left(surely(v, zeros), cell).count()}, api.OK
}

// Best returns the look that helps most, whatever it finds.
func Best(s api.Service, b api.Burn, l []api.Report, looks []api.Look) (int, api.Errno) {
	q, e := inquire(s, b, l)
	if e != api.OK {
		return 0, e
	}
	if len(looks) > api.MaxLooks {
		return 0, api.ErrLimit
	}
	if len(looks) == 0 {
		return 0, api.ErrNone
	}
	cell := q.cell()
	best, least := 0, 0
	for i, x := range looks {
		found, e := q.behind(cell, x)
		if e != api.OK {
			return 0, e
		}
		if n := max(found.Seen, found.Blank); i == 0 || n < least {
			best, least = i, n
		}
	}
	return best, api.OK
}
