package crew

import (
	"slices"

	"firetower/api"
)

// member is what an office knows of a crew.
type member struct {
	api.Crew
	sent  bool
	order int // the index of its last order
	freed int // the number of its last DeDone; 0 if there is none
}

// smoke is what an office knows of a smoke.
type smoke struct {
	api.Blaze
	told int // the number of its last DeBlaze
}

// Office sends crews.
type Office struct {
	trails   []api.Trail
	crews    []member
	smokes   []smoke
	orders   []api.Errand
	standing map[int]int // by the ID of a smoke, the index of the order that stands for it
	deeds    int
}

// New returns an office with trails and crews.
func New(l []api.Trail, crews []api.Crew) (*Office, api.Errno) {
	if e := Check(l); e != api.OK {
		return nil, e
	}
	if e := checkCrews(crews); e != api.OK {
		return nil, e
	}
	o := &Office{trails: copied(l), standing: map[int]int{}}
	for _, c := range crews {
		o.crews = append(o.crews, member{Crew: c})
	}
	return o, api.OK
}

// Do does a deed.
func (o *Office) Do(d api.Deed) api.Errno {
	x, is := deedOf(d)
	if !is {
		return api.ErrArg
	}
	e := o.take(x)
	if e == api.OK {
		o.deeds++
	}
	return e
}

// take does a deed by its kind.
func (o *Office) take(x deed) api.Errno {
	switch d := x.(type) {
	case telling:
		return o.tell(d.blaze)
	case withdrawing:
		return o.withdraw(d.blaze)
	case sending:
		return o.send(d.tick)
	case freeing:
		return o.free(d)
	}
	return api.ErrArg
}

// number returns the number of the deed that is done.
func (o *Office) number() int { return o.deeds + 1 }

// smoke returns the index of the smoke with an ID; -1 if there is none.
func (o *Office) smoke(id int) int {
	return slices.IndexFunc(o.smokes, func(s smoke) bool { return s.ID == id })
}

// crew returns the index of the crew with an ID; -1 if there is none.
func (o *Office) crew(id int) int {
	return slices.IndexFunc(o.crews, func(m member) bool { return m.ID == id })
}

func (o *Office) tell(b api.Blaze) api.Errno {
	if e := checkBlaze(b); e != api.OK {
		return e
	}
	i := o.smoke(b.ID)
	if i < 0 && len(o.smokes) >= api.MaxSmokes {
		return api.ErrLimit
	}
	b.Cell = slices.Clone(b.Cell)
	s := smoke{b, o.number()}
	if i < 0 {
		o.smokes = append(o.smokes, s)
	} else {
		o.smokes[i] = s
	}
	if !b.Proved {
		o.recall(b.ID)
	}
	return api.OK
}

func (o *Office) withdraw(id int) api.Errno {
	i := o.smoke(id)
	if i < 0 {
		return api.ErrNone
	}
	o.smokes = slices.Delete(o.smokes, i, i+1)
	o.recall(id)
	return api.OK
}

// recall recalls the order that stands for a smoke, if there is one. Its crew stays sent.
func (o *Office) recall(id int) {
	if i, is := o.standing[id]; is {
		o.orders[i].Recalled = true
		delete(o.standing, id)
	}
}

// send sends the crews that are free to the smokes that wait for one.
func (o *Office) send(tick int) api.Errno {
	crews, waiting := o.Crews(), o.waiting()
	// What the office knows is right, so that an error can be of the minute only.
	times, e := Times(o.trails, crews, waiting, tick)
	if e != api.OK {
		return e
	}
	sends := bestSends(times)
	if len(o.orders)+len(sends) > api.MaxSent {
		return api.ErrLimit
	}
	for _, s := range sends {
		o.order(o.crew(crews[s.Crew].ID), o.smoke(waiting[s.Blaze].ID), tick)
	}
	return api.OK
}

// waiting returns the smokes that are proved, and for which no order stands.
func (o *Office) waiting() []api.Blaze {
	var out []api.Blaze
	for _, s := range o.smokes {
		if _, is := o.standing[s.ID]; s.Proved && !is {
			out = append(out, s.Blaze)
		}
	}
	return out
}

// order sends the crew with an index to the smoke with an index.
func (o *Office) order(crew, at, tick int) {
	m, s := &o.crews[crew], o.smokes[at]
	deeds := []int{o.number(), s.told}
	if m.freed > 0 {
		deeds = append(deeds, m.freed)
	}
	slices.Sort(deeds)
	m.sent, m.order = true, len(o.orders)
	o.standing[s.ID] = len(o.orders)
	o.orders = append(o.orders, api.Errand{ID: len(o.orders) + 1, Crew: m.ID, Blaze: s.ID, Tick: tick, Deeds: deeds})
}

func (o *Office) free(d freeing) api.Errno {
	i := o.crew(d.crew)
	if i < 0 {
		return api.ErrNone
	}
	m := &o.crews[i]
	if !m.sent {
		return api.ErrState
	}
	if !isPlace(d.at) || !isTick(d.tick) {
		return api.ErrArg
	}
	last := &o.orders[m.order]
	last.Done = true
	// If the order was recalled, another one can stand for its smoke.
	if stands, is := o.standing[last.Blaze]; is && stands == m.order {
		delete(o.standing, last.Blaze)
	}
	m.At, m.Free, m.sent, m.freed = d.at, d.tick, false, o.number()
	return api.OK
}

// Orders returns all orders.
func (o *Office) Orders() []api.Errand {
	out := slices.Clone(o.orders)
	for i, x := range out {
		out[i].Deeds = slices.Clone(x.Deeds)
	}
	return out
}

// Sent returns the crew that is sent to a smoke.
func (o *Office) Sent(blaze int) (int, bool) {
	i, is := o.standing[blaze]
	if !is {
		return 0, false
	}
	return o.orders[i].Crew, true
}

// Crews returns the crews that are free.
func (o *Office) Crews() []api.Crew {
	var out []api.Crew
	for _, m := range o.crews {
		if !m.sent {
			out = append(out, m.Crew)
		}
	}
	return out
}

// Follows returns the orders that follow from a deed.
func (o *Office) Follows(deed int) ([]int, api.Errno) {
	if !within(deed, 1, o.deeds) {
		return nil, api.ErrNone
	}
	var out []int
	for _, x := range o.orders {
		if slices.Contains(x.Deeds, deed) {
			out = append(out, x.ID)
		}
	}
	return out, api.OK
}
