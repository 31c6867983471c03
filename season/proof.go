package season

import (
	"slices"

	"firetower/api"
	"firetower/cell"
	"firetower/crew"
	"firetower/join"
)

// CheckAnswer returns OK if a reply to a question is proved by what the office knows.
func CheckAnswer(s api.Setting, l []api.Entered, v []api.Version, now int, q api.Command, r api.Reply) api.Errno {
	x, e := inquire(s, l, v, now, q)
	if e != api.OK {
		return e
	}
	if !x.proved(r) {
		return api.ErrProof
	}
	return api.OK
}

// proved reports whether a reply is proved. One with an error has no proofs, so that the answer itself is looked for.
func (x inquiry) proved(r api.Reply) bool {
	if r.Err != api.OK {
		_, e := x.answer()
		return isReply(r, api.Reply{Err: e})
	}
	if !isEmpty(without(x.asked.Kind, r)) || x.fold() != api.OK {
		return false
	}
	kinds := map[int]func(r api.Reply) bool{
		api.CoCell: x.provesCell, api.CoSame: x.provesSame, api.CoSmokes: x.provesSets, api.CoSend: x.provesPlan,
		api.CoDuty: x.provesNames, api.CoOrder: x.provesName,
	}
	return kinds[x.asked.Kind](r)
}

func (x inquiry) provesCell(r api.Reply) bool {
	b, l, e := x.told()
	return e == api.OK && cell.CheckCell(x.day.Service, b, l, r.Places, r.Reasons) == api.OK
}

// provesTable reports whether it is proved which sightings can be of one smoke.
func (x inquiry) provesTable(r api.Reply) bool { return join.CheckTable(x.day, r.Joins) == api.OK }

func (x inquiry) provesSame(r api.Reply) bool {
	return x.provesTable(r) && join.CheckSame(x.day, r.Joins, x.asked.IDs[0], x.asked.IDs[1], r.Verdict) == api.OK
}

func (x inquiry) provesSets(r api.Reply) bool {
	sets, e := join.Proved(x.day)
	return e == api.OK && slices.EqualFunc(r.Sets, sets, slices.Equal[[]int]) && x.provesTable(r)
}

func (x inquiry) provesPlan(r api.Reply) bool {
	if !x.provesSets(r) {
		return false
	}
	times, e := x.times(r.Sets)
	return e == api.OK && crew.CheckPlan(times, r.Plan) == api.OK
}

func (x inquiry) provesNames(r api.Reply) bool {
	names, e := x.names()
	return e == api.OK && slices.Equal(r.Names, names)
}

func (x inquiry) provesName(r api.Reply) bool {
	name, e := x.ordered()
	return e == api.OK && r.Name == name && x.provesTable(r)
}
