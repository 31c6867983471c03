package season_test

import (
	"slices"

	"firetower/api"
	"firetower/cell"
	"firetower/crew"
	"firetower/join"
	"firetower/season"
	"firetower/watch"
)

// asked is all that an answer depends on.
type asked struct {
	s   api.Setting
	l   []api.Entered
	v   []api.Version
	now int
	q   api.Command
}

func (a asked) answer() api.Reply { return season.Answer(a.s, a.l, a.v, a.now, a.q) }

func (a asked) check(r api.Reply) api.Errno { return season.CheckAnswer(a.s, a.l, a.v, a.now, a.q, r) }

// wrong returns the errors of Answer up to watch.CheckVersions.
func (a asked) wrong() api.Errno {
	if !plainCommand(a.q) || a.q.Kind < api.CoCell || !between(a.now, 0, 1<<20) {
		return api.ErrArg
	}
	if e := season.CheckSetting(a.s); e != api.OK {
		return e
	}
	e, _ := watch.CheckVersions(a.v)
	return e
}

// day returns the day that the entries make together, or their error.
func (a asked) day() (api.Day, api.Errno) {
	if e := plainEntries(a.s, a.l); e != api.OK {
		return api.Day{}, e
	}
	d, _ := plainFold(a.s, a.l, a.q.Known)
	return d, api.OK
}

// list returns the burn of the IDs of the question, and what counts for it.
func (a asked) list(d api.Day) (api.Burn, []api.Report, api.Errno) {
	b, e := join.Burn(d, a.q.IDs)
	var l []api.Report
	for _, r := range d.Reports {
		if r.Kind == api.ReBlank || slices.Contains(a.q.IDs, r.ID) {
			l = append(l, r)
		}
	}
	return b, l, e
}

// plainAnswer returns the reply to a question.
func plainAnswer(a asked) api.Reply {
	if e := a.wrong(); e != api.OK {
		return api.Reply{Err: e}
	}
	if a.q.Kind == api.CoDuty {
		v, e := watch.InForce(a.v, a.q.Day)
		names, _ := watch.Who(v.Watch, a.q.Day, a.q.Name)
		return failing(api.Reply{Names: names}, e)
	}
	d, e := a.day()
	if e != api.OK {
		return api.Reply{Err: e}
	}
	if a.q.Kind == api.CoCell {
		b, l, e := a.list(d)
		places, _ := cell.Places(d.Service, b, l)
		reasons, _ := cell.Reasons(d.Service, b, l)
		return failing(api.Reply{Places: places, Reasons: reasons}, e)
	}
	table, _ := join.Table(d)
	if a.q.Kind == api.CoSame {
		v, e := join.Same(d, a.q.IDs[0], a.q.IDs[1])
		return failing(api.Reply{Joins: table, Verdict: v}, e)
	}
	sets, e := join.Proved(d)
	if e != api.OK {
		return api.Reply{Err: e}
	}
	switch a.q.Kind {
	case api.CoSmokes:
		return api.Reply{Joins: table, Sets: sets}
	case api.CoSend:
		times, e := crewTimes(a.s, d, sets, a.q.N)
		plan, _ := crew.Best(times)
		return failing(api.Reply{Joins: table, Sets: sets, Plan: plan}, e)
	}
	name, e := plainOrder(a, d, sets)
	return failing(api.Reply{Joins: table, Name: name}, e)
}

// failing returns a reply, or its error alone.
func failing(r api.Reply, e api.Errno) api.Reply {
	if e != api.OK {
		return api.Reply{Err: e}
	}
	return r
}

// plainOrder returns the order for the smoke of a sighting.
func plainOrder(a asked, d api.Day, sets [][]int) (string, api.Errno) {
	var smoke []int
	for _, ids := range sets {
		if slices.Contains(ids, a.q.N) {
			smoke = ids
		}
	}
	if smoke == nil {
		return "", api.ErrNone
	}
	v, e := watch.InForce(a.v, a.now/1440)
	if e != api.OK {
		return "", e
	}
	var towers []int
	last := -1
	for _, r := range d.Reports {
		if r.Kind != api.ReSight || !slices.Contains(smoke, r.ID) {
			continue
		}
		last = max(last, r.Tick)
		if !slices.Contains(towers, r.Tower) {
			towers = append(towers, r.Tower)
		}
	}
	places, _ := join.Cell(d, smoke)
	facts := [5]int{len(places), len(towers), min(10000, max(0, a.now-last)), (a.now / 60) % 24, len(a.s.Crews)}
	i, is, _ := watch.Decide(v.Watch.Orders, facts)
	if !is {
		return "", api.OK
	}
	return v.Watch.Orders[i].Name, api.OK
}

// own returns a reply with an error, and what belongs to a kind of questions, only.
func own(kind int, r api.Reply) api.Reply {
	out := api.Reply{Err: r.Err}
	if r.Err != api.OK {
		return out
	}
	if kind != api.CoCell && kind != api.CoDuty {
		out.Joins = r.Joins
	}
	if kind == api.CoSmokes || kind == api.CoSend {
		out.Sets = r.Sets
	}
	switch kind {
	case api.CoCell:
		out.Places, out.Reasons = r.Places, r.Reasons
	case api.CoSame:
		out.Verdict = r.Verdict
	case api.CoSend:
		out.Plan = r.Plan
	case api.CoDuty:
		out.Names = r.Names
	case api.CoOrder:
		out.Name = r.Name
	}
	return out
}

// plainProved reports whether a reply to a question that has no error before is proved.
func plainProved(a asked, r api.Reply) bool {
	right := plainAnswer(a)
	if r.Err != right.Err || !same(r, own(a.q.Kind, r)) {
		return false
	}
	if r.Err != api.OK {
		return true
	}
	if a.q.Kind == api.CoDuty {
		return same(r.Names, right.Names)
	}
	d, _ := a.day()
	table := join.CheckTable(d, r.Joins) == api.OK
	switch a.q.Kind {
	case api.CoCell:
		b, l, _ := a.list(d)
		return cell.CheckCell(d.Service, b, l, r.Places, r.Reasons) == api.OK
	case api.CoSame:
		return table && join.CheckSame(d, r.Joins, a.q.IDs[0], a.q.IDs[1], r.Verdict) == api.OK
	case api.CoSmokes:
		return table && same(r.Sets, right.Sets)
	case api.CoSend:
		times, _ := crewTimes(a.s, d, right.Sets, a.q.N)
		return table && same(r.Sets, right.Sets) && crew.CheckPlan(times, r.Plan) == api.OK
	}
	return table && r.Name == right.Name
}
