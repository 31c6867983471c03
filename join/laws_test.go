package join_test

import (
	"slices"
	"testing"

	"firetower/api"
	"firetower/join"
)

func TestP7_10Parts(t *testing.T) {
	r := random(40)
	var possible, smaller int
	for range 150 {
		d := randomDay(r, 10, 6)
		sets := plainSets(plainSightings(d))
		for _, s := range sets {
			whole, _ := join.Cell(d, s)
			if len(whole) == 0 {
				continue
			}
			for _, o := range sets {
				if len(o) == len(s) || !partOf(o, s) {
					continue
				}
				possible++
				is, e := join.Possible(d, o)
				l, _ := join.Cell(d, o)
				if !is || e != api.OK || slices.ContainsFunc(whole, func(p api.Place) bool { return !slices.Contains(l, p) }) {
					t.Fatal(d, s, o, whole, l)
				}
				if len(l) > len(whole) {
					smaller++
				}
			}
		}
	}
	counted(t, "parts of possible sets", possible, 300)
	counted(t, "parts with more places", smaller, 100)
}

// checkVerdicts compares what follows from a table with what follows from the day, for two sightings; it returns how many verdicts it looks at.
func checkVerdicts(t *testing.T, d api.Day, j api.Joins, a, b int) int {
	t.Helper()
	v, e := join.Same(d, a, b)
	mustBe(t, join.CheckSame(d, j, a, b, v), e, d, j, a, b, v)
	if e != api.OK {
		return 0
	}
	n := 0
	for answer := api.Answer(0); answer < 5; answer++ {
		for _, l := range [][][]int{nil, v.Together, v.Apart} {
			for _, k := range [][][]int{nil, v.Together, v.Apart} {
				n++
				if join.CheckSame(d, j, a, b, api.Verdict{Answer: answer, Together: l, Apart: k}) == api.OK && answer != v.Answer {
					t.Fatal(d, j, a, b, answer, l, k)
				}
			}
		}
	}
	return n
}

func TestP7_11Tables(t *testing.T) {
	r := random(41)
	var other, verdicts int
	for range 120 {
		d := randomDay(r, 9, 5)
		ids, _ := join.Sightings(d)
		j, _ := join.Table(d)
		mustBe(t, join.CheckTable(d, j), api.OK, d, j)
		for range 4 {
			if len(ids) == 0 {
				break
			}
			if x := bent(r, d, j); join.CheckTable(d, x) == api.OK {
				j = x
				other++
			}
		}
		for _, s := range plainSets(ids) {
			if is, _ := join.Possible(d, s); is != plainFits(j, s) {
				t.Fatal(d, j, s)
			}
		}
		n, e := join.Fewest(d)
		if m, err := join.Least(ids, j); m != n || err != e {
			t.Fatal(d, j, m, err, "instead of", n, e)
		}
		for _, pair := range pairsOf(ids) {
			verdicts += checkVerdicts(t, d, j, pair[0], pair[1])
		}
	}
	counted(t, "accepted tables that Table does not return", other, 30)
	counted(t, "verdicts", verdicts, 1000)
}

func TestP7_12Partitions(t *testing.T) {
	r := random(42)
	var accepted, refused int
	for range 150 {
		d := randomDay(r, 10, 5)
		ids, _ := join.Sightings(d)
		count, _ := join.Count(d)
		fewest, e := join.Fewest(d)
		var listed [][][]int
		for n := range 8 {
			l, _ := join.Partitions(d, n)
			if n < len(count) && len(l) != count[n] || n >= len(count) && len(l) > 0 || len(l) > 0 && (n < fewest || e != api.OK) {
				t.Fatal(d, n, l, count, fewest, e)
			}
			listed = append(listed, l...)
		}
		for _, p := range plainPartitions(ids, func([]int) bool { return true }) {
			is := slices.ContainsFunc(listed, func(o [][]int) bool { return sameSets(o, p) })
			if e := join.CheckPartition(d, p); (e == api.OK) != is || e != api.OK && e != api.ErrProof {
				t.Fatal(d, p, e, is)
			}
			if is {
				accepted++
			} else {
				refused++
			}
			if slices.Reverse(p); len(p) > 1 {
				mustBe(t, join.CheckPartition(d, p), api.ErrProof, d, p)
			}
		}
	}
	counted(t, "possible partitions", accepted, 300)
	counted(t, "other partitions", refused, 300)
}

// The smokes of a world are one of the possible partitions, and what is told of all is told of them.
func TestP7_13Truth(t *testing.T) {
	r := random(43)
	var yes, no, several, fewer int
	for range 1200 {
		w := trueWorld(r, []int{5, 12, 49}[r.IntN(3)], 6)
		l := w.burned()
		var p [][]int
		for _, s := range l {
			p = append(p, s.ids)
		}
		mustBe(t, join.CheckPartition(w.d, p), api.OK, w, p)
		n, e := join.Fewest(w.d)
		if e != api.OK || n > len(l) {
			t.Fatal(w, n, e)
		}
		if n < len(l) {
			fewer++
			continue
		}
		if n > 1 {
			several++
		}
		for _, s := range l {
			for _, id := range s.ids {
				if places, e := join.Stands(w.d, id); !slices.Contains(places, s.at) || e != api.OK {
					t.Fatal(w, s, id, places, e)
				}
			}
		}
		a, b, ok := pairOf(r, w.d)
		if !ok {
			continue
		}
		v, e := join.Same(w.d, a, b)
		if e != api.OK || v.Answer == api.Yes && !meets(p, a, b) || v.Answer == api.No && meets(p, a, b) {
			t.Fatal(w, a, b, v, e)
		}
		if v.Answer == api.Yes {
			yes++
		}
		if v.Answer == api.No {
			no++
		}
	}
	counted(t, "worlds with as many smokes as there must be", several, 200)
	counted(t, "worlds with more smokes", fewer, 100)
	counted(t, "sightings of one smoke", yes, 100)
	counted(t, "sightings of two smokes", no, 100)
}

func TestP7_14Groups(t *testing.T) {
	r := random(44)
	var one, two, proved int
	for range 250 {
		d := randomDay(r, 10, 6)
		ids, _ := join.Sightings(d)
		groups, e := join.Groups(d)
		if e != api.OK {
			continue
		}
		var all []int
		for _, g := range groups {
			all = append(all, g...)
		}
		if slices.Sort(all); !slices.Equal(all, ids) {
			t.Fatal(d, groups)
		}
		for _, pair := range pairsOf(ids) {
			a, b := pair[0], pair[1]
			v, e := join.Same(d, a, b)
			if e != api.OK || (v.Answer == api.Yes) != meets(groups, a, b) {
				t.Fatal(d, groups, a, b, v, e)
			}
			if v.Answer == api.Yes {
				one++
			} else {
				two++
			}
		}
		l, _ := join.Proved(d)
		for _, s := range l {
			proved++
			if !holds(groups, s) {
				t.Fatal(d, groups, s)
			}
		}
	}
	counted(t, "pairs in one group", one, 200)
	counted(t, "pairs in two groups", two, 200)
	counted(t, "proved sets", proved, 100)
}

func TestP7_15Blanks(t *testing.T) {
	r := random(45)
	var fewer, rise int
	for range 400 {
		d := randomDay(r, 8, 5)
		x, e := join.With(d, further(r, d))
		if e != api.OK {
			t.Fatal(d, e)
		}
		ids, _ := join.Sightings(d)
		for _, s := range plainSets(ids) {
			was, _ := join.Possible(d, s)
			is, _ := join.Possible(x, s)
			if is && !was {
				t.Fatal(x, s)
			}
			if was && !is {
				fewer++
			}
		}
		n, e := join.Fewest(d)
		m, err := join.Fewest(x)
		if err == api.OK && (e != api.OK || m < n) || err != api.OK && err != api.ErrClash {
			t.Fatal(x, n, e, m, err)
		}
		if e == api.OK && (err != api.OK || m > n) {
			rise++
		}
	}
	counted(t, "sets that are not possible any more", fewer, 50)
	counted(t, "days with more smokes", rise, 10)
}

func TestP7_15Rests(t *testing.T) {
	r := random(46)
	kept := 0
	for range 250 {
		d := randomDay(r, 9, 6)
		a, b, ok := pairOf(r, d)
		if !ok {
			continue
		}
		v, e := join.Same(d, a, b)
		rests, err := join.Rests(d, a, b)
		if e != err {
			t.Fatal(d, a, b, e, err)
		}
		if e != api.OK {
			continue
		}
		for _, x := range d.Reports {
			if x.ID == a || x.ID == b {
				continue
			}
			less, _ := join.Without(d, []int{x.ID})
			o, e := join.Same(less, a, b)
			if same := e == api.OK && o.Answer == v.Answer; same == slices.Contains(rests, x.ID) {
				t.Fatal(d, a, b, x, rests, v, o, e)
			} else if same {
				kept++
			}
		}
	}
	counted(t, "reports without which the answer stays", kept, 200)
}
