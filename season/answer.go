package season

import (
	"slices"

	"firetower/api"
	"firetower/cell"
	"firetower/crew"
	"firetower/join"
	"firetower/watch"
)

// inquiry is a question that has been checked, with what it is answered by.
type inquiry struct {
	asked    api.Command
	setting  api.Setting
	entries  []api.Entered
	versions []api.Version
	now      int
	day      api.Day // what the entries make together, once they have been folded
}

// inquire returns an inquiry, or the first error of what no answer is given for.
func inquire(s api.Setting, l []api.Entered, v []api.Version, now int, q api.Command) (inquiry, api.Errno) {
	if !formedCommand(q) || !isQuestion(q) || !isTick(now) {
		return inquiry{}, api.ErrArg
	}
	if e := CheckSetting(s); e != api.OK {
		return inquiry{}, e
	}
	if e, _ := watch.CheckVersions(v); e != api.OK {
		return inquiry{}, e
	}
	return inquiry{asked: q, setting: s, entries: l, versions: v, now: now}, api.OK
}

// Answer returns the reply to a question, by what the office knows.
func Answer(s api.Setting, l []api.Entered, v []api.Version, now int, q api.Command) api.Reply {
	x, e := inquire(s, l, v, now, q)
	if e != api.OK {
		return api.Reply{Err: e}
	}
	out, e := x.answer()
	if e != api.OK {
		return api.Reply{Err: e}
	}
	return out
}

// answer returns the answer to a question, or its error.
func (x inquiry) answer() (api.Reply, api.Errno) {
	if e := x.fold(); e != api.OK {
		return api.Reply{}, e
	}
	kinds := map[int]func() (api.Reply, api.Errno){
		api.CoCell: x.cell, api.CoSame: x.same, api.CoSmokes: x.smokes, api.CoSend: x.send, api.CoDuty: x.duty, api.CoOrder: x.order,
	}
	return kinds[x.asked.Kind]()
}

// fold folds the entries, or returns their first error. Who watches does not depend on them.
func (x *inquiry) fold() api.Errno {
	if x.asked.Kind == api.CoDuty {
		return api.OK
	}
	if e := checkEntries(x.setting, x.entries); e != api.OK {
		return e
	}
	x.day, _ = folded(x.setting, x.entries, x.asked.Known)
	return api.OK
}

func (x inquiry) cell() (api.Reply, api.Errno) {
	b, l, e := x.told()
	if e != api.OK {
		return api.Reply{}, e
	}
	places, _ := cell.Places(x.day.Service, b, l)
	reasons, _ := cell.Reasons(x.day.Service, b, l)
	return api.Reply{Places: places, Reasons: reasons}, api.OK
}

// told returns when the smoke of the IDs burned, and what was told of it.
func (x inquiry) told() (api.Burn, []api.Report, api.Errno) {
	b, e := join.Burn(x.day, x.asked.IDs)
	if e != api.OK {
		return api.Burn{}, nil, e
	}
	l := slices.DeleteFunc(slices.Clone(x.day.Reports), func(r api.Report) bool {
		return r.Kind == api.ReSight && !slices.Contains(x.asked.IDs, r.ID)
	})
	return b, l, api.OK
}

func (x inquiry) same() (api.Reply, api.Errno) {
	v, e := join.Same(x.day, x.asked.IDs[0], x.asked.IDs[1])
	if e != api.OK {
		return api.Reply{}, e
	}
	return api.Reply{Joins: x.table(), Verdict: v}, api.OK
}

// table returns which sightings can be of one smoke; the day is right.
func (x inquiry) table() api.Joins {
	out, _ := join.Table(x.day)
	return out
}

func (x inquiry) smokes() (api.Reply, api.Errno) {
	sets, e := join.Proved(x.day)
	if e != api.OK {
		return api.Reply{}, e
	}
	return api.Reply{Joins: x.table(), Sets: sets}, api.OK
}

func (x inquiry) send() (api.Reply, api.Errno) {
	sets, e := join.Proved(x.day)
	if e != api.OK {
		return api.Reply{}, e
	}
	times, e := x.times(sets)
	if e != api.OK {
		return api.Reply{}, e
	}
	plan, _ := crew.Best(times)
	return api.Reply{Joins: x.table(), Sets: sets, Plan: plan}, api.OK
}

// times returns when crews have surely reached the smokes of sets.
func (x inquiry) times(sets [][]int) ([][]int, api.Errno) {
	var blazes []api.Blaze
	for _, ids := range sets {
		places, _ := join.Cell(x.day, ids)
		blazes = append(blazes, api.Blaze{ID: ids[0], Cell: places, Proved: true})
	}
	return crew.Times(x.setting.Trails, x.setting.Crews, blazes, x.asked.N)
}

func (x inquiry) duty() (api.Reply, api.Errno) {
	names, e := x.names()
	return api.Reply{Names: names}, e
}

// names returns who watches the tower on the day.
func (x inquiry) names() ([]string, api.Errno) {
	v, e := watch.InForce(x.versions, x.asked.Day)
	if e != api.OK {
		return nil, e
	}
	return watch.Who(v.Watch, x.asked.Day, x.asked.Name)
}

func (x inquiry) order() (api.Reply, api.Errno) {
	name, e := x.ordered()
	if e != api.OK {
		return api.Reply{}, e
	}
	return api.Reply{Joins: x.table(), Name: name}, api.OK
}

// ordered returns the name of the order for the smoke of the sighting N; it is empty if there is none.
func (x inquiry) ordered() (string, api.Errno) {
	sets, e := join.Proved(x.day)
	if e != api.OK {
		return "", e
	}
	i := slices.IndexFunc(sets, func(ids []int) bool { return slices.Contains(ids, x.asked.N) })
	if i < 0 {
		return "", api.ErrNone
	}
	v, e := watch.InForce(x.versions, x.now/api.DayTick)
	if e != api.OK {
		return "", e
	}
	k, is, e := watch.Decide(v.Watch.Orders, x.facts(sets[i]))
	if !is {
		return "", e
	}
	return v.Watch.Orders[k].Name, e
}

// facts returns what orders ask for, of the smoke of a set.
func (x inquiry) facts(ids []int) [api.Facts]int {
	places, _ := join.Cell(x.day, ids)
	burn, _ := join.Burn(x.day, ids)
	towers := map[int]bool{}
	for _, r := range x.day.Reports {
		if slices.Contains(ids, r.ID) {
			towers[r.Tower] = true
		}
	}
	return [api.Facts]int{
		api.FaCell: len(places),
		api.FaSeen: len(towers),
		api.FaAge:  min(max(x.now-burn.To, 0), api.MaxFact),
		api.FaHour: x.now / 60 % 24,
		api.FaFree: len(x.setting.Crews),
	}
}
