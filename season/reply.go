package season

import (
	"strings"

	"firetower/api"
)

// without returns a reply to a question without what belongs to the question's kind.
func without(kind int, r api.Reply) api.Reply {
	switch kind {
	case api.CoCell:
		r.Places, r.Reasons = nil, nil
	case api.CoSame:
		r.Joins, r.Verdict = api.Joins{}, api.Verdict{}
	case api.CoSmokes:
		r.Joins, r.Sets = api.Joins{}, nil
	case api.CoSend:
		r.Joins, r.Sets, r.Plan = api.Joins{}, nil, api.Plan{}
	case api.CoDuty:
		r.Names = nil
	case api.CoOrder:
		r.Joins, r.Name = api.Joins{}, ""
	}
	return r
}

// isEmpty reports whether a reply tells nothing.
func isEmpty(r api.Reply) bool {
	lengths := len(r.Places) + len(r.Reasons) + len(r.Joins.Fits) + len(r.Joins.Misfits) + len(r.Verdict.Together) + len(r.Verdict.Apart) +
		len(r.Sets) + len(r.Plan.Sends) + len(r.Plan.Crews) + len(r.Plan.Blazes) + len(r.Names) + len(r.Name)
	return r.Err == api.OK && r.N == 0 && r.Verdict.Answer == 0 && r.Plan.Sum == 0 && lengths == 0
}

// isReply reports whether a reply is one that has at most an error or a number.
func isReply(r, right api.Reply) bool {
	if r.Err != right.Err || r.N != right.N {
		return false
	}
	r.Err, r.N = api.OK, 0
	return isEmpty(r)
}

// Transcript returns a line for each reply.
func Transcript(s api.Script, l []api.Reply) ([]string, api.Errno) {
	if e, _ := Check(s); e != api.OK {
		return nil, e
	}
	if len(l) != len(s.Commands) {
		return nil, api.ErrForm
	}
	var out []string
	for i, r := range l {
		out = append(out, replyLine(s.Commands[i].Kind, r))
	}
	return out, api.OK
}

// replyLine returns the line of a reply to a command of a kind.
func replyLine(kind int, r api.Reply) string {
	if r.Err != api.OK {
		return line("error", int(r.Err))
	}
	switch kind {
	case api.CoTell:
		return line("line", r.N)
	case api.CoFetch:
		return line("new", r.N)
	case api.CoCell:
		return placesLine(r.Places)
	case api.CoSame:
		return answerLine(r.Verdict.Answer)
	case api.CoSmokes:
		return setsLine(r.Sets)
	case api.CoSend:
		return planLine(r.Plan)
	case api.CoDuty:
		return strings.Join(append([]string{"duty"}, r.Names...), " ")
	case api.CoOrder:
		if r.Name != "" {
			return "order " + r.Name
		}
		return "order"
	}
	return "ok"
}

func placesLine(l []api.Place) string {
	out := []int{len(l)}
	for _, p := range l {
		out = append(out, p.X, p.Y)
	}
	return line("cell", out...)
}

func answerLine(is api.Answer) string {
	switch is {
	case api.Yes:
		return "yes"
	case api.No:
		return "no"
	}
	return "open"
}

func setsLine(l [][]int) string {
	out := []int{len(l)}
	for _, ids := range l {
		out = append(append(out, len(ids)), ids...)
	}
	return line("smokes", out...)
}

func planLine(p api.Plan) string {
	out := []int{p.Sum}
	for _, s := range p.Sends {
		out = append(out, s.Crew, s.Blaze)
	}
	return line("send", out...)
}
