package crew

import (
	"slices"

	"firetower/api"
)

// checkTable returns the first error of a table of times.
func checkTable(times [][]int) api.Errno {
	if len(times) > api.MaxCrews {
		return api.ErrLimit
	}
	for _, row := range times {
		if len(row) > api.MaxSmokes {
			return api.ErrLimit
		}
	}
	for _, row := range times {
		if len(row) != len(times[0]) {
			return api.ErrArg
		}
		for _, t := range row {
			if !within(t, -1, api.MaxMinutes) {
				return api.ErrArg
			}
		}
	}
	return api.OK
}

// columns returns how many smokes a valid table is for.
func columns(times [][]int) int {
	if len(times) == 0 {
		return 0
	}
	return len(times[0])
}

// gain returns what a pair with a number is worth. One pair more is worth more than the numbers of all crews together, so that the best sends are those that are worth the most.
func gain(t int) int { return api.MaxGain - t }

// column is one of some columns of a table: the bit i stands for the column i.
func column(i int) int { return 1 << i }

// search returns a function that tells how much sends can be worth at most of the rows from one on, and without the columns that are taken.
func search(times [][]int) func(row, taken int) int {
	// What is known is told one greater, because nothing is told as 0.
	var known [api.MaxCrews][1 << api.MaxSmokes]int
	var most func(row, taken int) int
	most = func(row, taken int) int {
		if row == len(times) {
			return 0
		}
		if n := known[row][taken]; n > 0 {
			return n - 1
		}
		best := most(row+1, taken)
		for i, t := range times[row] {
			if t >= 0 && taken&column(i) == 0 {
				best = max(best, gain(t)+most(row+1, taken|column(i)))
			}
		}
		known[row][taken] = best + 1
		return best
	}
	return most
}

// worth returns how much the best sends for a table are worth.
func worth(times [][]int) int { return search(times)(0, 0) }

// bestSends returns the best sends. A list is the least one if each row, in order, has the least column with which the rest can still be the best, and none only if there is no such column.
func bestSends(times [][]int) []api.Send {
	most, taken := search(times), 0
	var out []api.Send
	for row, numbers := range times {
		best := most(row, taken)
		for i, t := range numbers {
			if t >= 0 && taken&column(i) == 0 && gain(t)+most(row+1, taken|column(i)) == best {
				out = append(out, api.Send{Crew: row, Blaze: i})
				taken |= column(i)
				break
			}
		}
	}
	return out
}

// sum returns the sum of the numbers of sends.
func sum(times [][]int, l []api.Send) int {
	out := 0
	for _, s := range l {
		out += times[s.Crew][s.Blaze]
	}
	return out
}

// prices is numbers for the rows and the columns of a table.
type prices struct {
	rows    [api.MaxCrews]int
	columns [api.MaxSmokes]int
}

// pricesOf returns numbers that prove the best sends. A row has what would be lost without it; these numbers are the greatest ones that rows can have in any proof, all at once (as prices in a market of pairs), so that the least ones that the columns must then have complete it.
func pricesOf(times [][]int) prices {
	var out prices
	all := worth(times)
	for row := range times {
		out.rows[row] = all - worth(slices.Concat(times[:row], times[row+1:]))
	}
	for row, numbers := range times {
		for i, t := range numbers {
			if t >= 0 {
				out.columns[i] = max(out.columns[i], gain(t)-out.rows[row])
			}
		}
	}
	return out
}

// Best returns the best way to send crews, with a proof.
func Best(times [][]int) (api.Plan, api.Errno) {
	if e := checkTable(times); e != api.OK {
		return api.Plan{}, e
	}
	p := pricesOf(times)
	out := api.Plan{Sends: bestSends(times), Crews: slices.Clone(p.rows[:len(times)]), Blazes: slices.Clone(p.columns[:columns(times)])}
	out.Sum = sum(times, out.Sends)
	return out, api.OK
}

// CheckPlan returns OK if a plan is proved.
func CheckPlan(times [][]int, p api.Plan) api.Errno {
	if e := checkTable(times); e != api.OK {
		return e
	}
	if !areSends(times, p.Sends) || p.Sum != sum(times, p.Sends) || !cover(times, p) {
		return api.ErrProof
	}
	all := 0
	for _, n := range slices.Concat(p.Crews, p.Blazes) {
		all += n
	}
	if all != api.MaxGain*len(p.Sends)-p.Sum {
		return api.ErrProof
	}
	return api.OK
}

// areSends reports whether pairs are sends for a table.
func areSends(times [][]int, l []api.Send) bool {
	taken := 0
	for i, s := range l {
		if !within(s.Crew, 0, len(times)-1) || !within(s.Blaze, 0, columns(times)-1) || i > 0 && s.Crew <= l[i-1].Crew {
			return false
		}
		if times[s.Crew][s.Blaze] < 0 || taken&column(s.Blaze) != 0 {
			return false
		}
		taken |= column(s.Blaze)
	}
	return true
}

// cover reports whether a plan has numbers for the rows and columns of a table, and those of each pair are together at least what it is worth.
func cover(times [][]int, p api.Plan) bool {
	if len(p.Crews) != len(times) || len(p.Blazes) != columns(times) {
		return false
	}
	for _, n := range slices.Concat(p.Crews, p.Blazes) {
		if !within(n, 0, api.MaxGain) {
			return false
		}
	}
	for row, numbers := range times {
		for i, t := range numbers {
			if t >= 0 && p.Crews[row]+p.Blazes[i] < gain(t) {
				return false
			}
		}
	}
	return true
}

// Forced returns the crews and smokes that all best plans join.
func Forced(times [][]int) ([]api.Send, api.Errno) {
	if e := checkTable(times); e != api.OK {
		return nil, e
	}
	all := worth(times)
	var out []api.Send
	for _, s := range bestSends(times) {
		if worth(without(times, s)) < all {
			out = append(out, s)
		}
	}
	return out, api.OK
}

// without returns a table in which a pair has no number.
func without(times [][]int, s api.Send) [][]int {
	out := slices.Clone(times)
	out[s.Crew] = slices.Clone(out[s.Crew])
	out[s.Crew][s.Blaze] = -1
	return out
}
