package watch

import (
	"cmp"
	"iter"
	"maps"
	"slices"

	"firetower/api"
)

// checkDays returns the first error of a watch and a span of days.
func checkDays(w api.Watch, days api.Span) api.Errno {
	if e := Check(w); e != api.OK {
		return e
	}
	if !areDays(days) {
		return api.ErrArg
	}
	return api.OK
}

// daily yields the days of a span, each with its duties.
func daily(w api.Watch, days api.Span) iter.Seq2[int, []api.Duty] {
	return func(yield func(int, []api.Duty) bool) {
		for day := days.Lo; day <= days.Hi; day++ {
			if !yield(day, dutiesOf(w, day)) {
				return
			}
		}
	}
}

// Gaps returns the days and towers that nobody watches; Person is empty.
func Gaps(w api.Watch, towers []string, days api.Span) ([]api.Duty, api.Errno) {
	if e := checkDays(w, days); e != api.OK {
		return nil, e
	}
	if e := checkTowers(towers); e != api.OK {
		return nil, e
	}
	var out []api.Duty
	for day, duties := range daily(w, days) {
		for _, tower := range towers {
			if !slices.ContainsFunc(duties, func(d api.Duty) bool { return d.Tower == tower }) {
				out = append(out, api.Duty{Day: day, Tower: tower})
			}
		}
	}
	return out, api.OK
}

// checkTowers returns the first error of a list of towers.
func checkTowers(towers []string) api.Errno {
	if slices.ContainsFunc(towers, func(s string) bool { return !isName(s) }) {
		return api.ErrArg
	}
	if len(towers) > api.MaxLines {
		return api.ErrLimit
	}
	for i, s := range towers {
		if slices.Contains(towers[:i], s) {
			return api.ErrTwice
		}
	}
	return api.OK
}

// towersBy returns how many towers each person watches by the duties of a day.
func towersBy(duties []api.Duty) map[string]int {
	out := map[string]int{}
	for _, d := range duties {
		out[d.Person]++
	}
	return out
}

// Doubles returns the duties of all who watch several towers on one day.
func Doubles(w api.Watch, days api.Span) ([]api.Duty, api.Errno) {
	if e := checkDays(w, days); e != api.OK {
		return nil, e
	}
	var out []api.Duty
	for _, duties := range daily(w, days) {
		towers := towersBy(duties)
		slices.SortFunc(duties, byPerson)
		for _, d := range duties {
			if towers[d.Person] > 1 {
				out = append(out, d)
			}
		}
	}
	return out, api.OK
}

// Loads returns on how many days each one watches.
func Loads(w api.Watch, days api.Span) ([]api.Load, api.Errno) {
	if e := checkDays(w, days); e != api.OK {
		return nil, e
	}
	count := map[string]int{}
	for _, duties := range daily(w, days) {
		for person := range towersBy(duties) {
			count[person]++
		}
	}
	var out []api.Load
	for person, n := range count {
		out = append(out, api.Load{Person: person, Days: n})
	}
	slices.SortFunc(out, func(a, b api.Load) int { return cmp.Compare(a.Person, b.Person) })
	return out, api.OK
}

// SameDays reports whether two rosters mean the same on some days, and returns the first day on which they do not.
func SameDays(a, b api.Watch, days api.Span) (int, bool, api.Errno) {
	if e := Check(a); e != api.OK {
		return 0, false, e
	}
	if e := checkDays(b, days); e != api.OK {
		return 0, false, e
	}
	for day, duties := range daily(a, days) {
		if !slices.Equal(duties, dutiesOf(b, day)) {
			return day, false, api.OK
		}
	}
	return 0, true, api.OK
}

// Plain returns a roster of watches alone that means the same on some days.
func Plain(w api.Watch, days api.Span) (api.Watch, api.Errno) {
	if e := checkDays(w, days); e != api.OK {
		return api.Watch{}, e
	}
	stood := map[api.Duty][]int{} // by a duty without its day, the days on which it is one
	for day, duties := range daily(w, days) {
		for _, d := range duties {
			d.Day = 0
			stood[d] = append(stood[d], day)
		}
	}
	var out api.Watch
	for _, d := range slices.SortedFunc(maps.Keys(stood), byTower) {
		out.Lines = append(out.Lines, plainLines(d, stood[d])...)
	}
	if len(out.Lines) > api.MaxLines {
		return api.Watch{}, api.ErrLimit
	}
	return out, api.OK
}

// plainLines returns the lines that say a duty for some days: one if it has to leave out few days, or one for each run of days.
func plainLines(d api.Duty, days []int) []api.Line {
	runs := runsOf(days)
	first, last := days[0], days[len(days)-1]
	if last-first+1-len(days) > api.MaxExcept {
		var out []api.Line
		for _, r := range runs {
			out = append(out, plainLine(d, r))
		}
		return out
	}
	out := plainLine(d, api.Span{Lo: first, Hi: last})
	for i, r := range runs[1:] {
		for day := runs[i].Hi + 1; day < r.Lo; day++ {
			out.Except = append(out.Except, day)
		}
	}
	return []api.Line{out}
}

func plainLine(d api.Duty, days api.Span) api.Line {
	return api.Line{Kind: api.LiWatch, Tower: d.Tower, Person: d.Person, From: days.Lo, To: days.Hi, Every: 1}
}

// runsOf returns the longest runs of days that follow each other.
func runsOf(days []int) []api.Span {
	var out []api.Span
	for i, day := range days {
		if i == 0 || days[i-1]+1 < day {
			out = append(out, api.Span{Lo: day})
		}
		out[len(out)-1].Hi = day
	}
	return out
}
