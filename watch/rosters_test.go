package watch_test

import (
	"maps"
	"slices"
	"strconv"
	"strings"
	"testing"

	"firetower/api"
	"firetower/watch"
)

func duty(day int, tower, person string) api.Duty {
	return api.Duty{Day: day, Tower: tower, Person: person}
}

// on returns the duties of a day of a watch whose text is given, as pairs of a tower and a person.
func on(t *testing.T, day int, source string) string {
	t.Helper()
	l, e := watch.Duties(parsed(t, source), day)
	mustBe(t, e, api.OK, source)
	var out []string
	for _, d := range l {
		if d.Day != day {
			t.Error(source, d)
		}
		out = append(out, d.Tower+" "+d.Person)
	}
	return strings.Join(out, ", ")
}

func TestP8_3Example(t *testing.T) {
	for day, want := range map[int]string{0: "", 1: "north ann", 2: "north ben", 3: "north ann", 4: "north ann, south ben", 5: "", 6: "", 7: "north ann", 10: "north ben", 11: "", 400: ""} {
		if got := on(t, day, example); got != want {
			t.Error(day, got, "instead of", want)
		}
	}
}

func TestP8_3Lines(t *testing.T) {
	for _, x := range []struct{ source, want string }{
		{"watch b by x on 5; watch a by y on 5; watch a by x on 5; watch a1 by x on 5; watch a by x1 on 5;", "a x, a x1, a y, a1 x, b x"},
		{"watch a by x on 5; watch a by x on 5;", "a x"},
		{"watch a by x from 2 to 8 every 3; watch b by x from 2 to 8 every 2; watch c by x from 5 to 8 every 400; watch d by x on 4;", "a x, c x"},
		{"watch a by x from 0 to 400 except 5; watch b by x on 5 except 5; watch c by x on 5 except 4, 6;", "c x"},
		{"watch a by x from 0 to 5; watch b by x from 5 to 9; watch c by x from 0 to 4; watch d by x from 6 to 9;", "a x, b x"},
		{"rest x on 5; watch a by x on 5; watch b by y on 5;", "a x, b y"},
		{"watch a by x on 5; watch b by x on 5; watch b by y on 5; rest x on 5;", "b y"},
		{"watch a by x on 5; rest x on 4; rest x from 4 to 6 every 2; rest x on 5 except 5;", "a x"},
		{"watch a by x on 5; watch b by x on 5; watch b by y on 5; cancel b on 5;", "a x"},
		{"cancel a on 5; watch a by x on 5; cancel a on 6;", "a x"},
		{"watch a by x on 5; cancel a on 5; watch a by y on 5;", "a y"},
		{"watch a by x on 5; watch a by y on 5; watch b by x on 5; watch c by z on 5; swap x y on 5;", "a x, a y, b y, c z"},
		{"watch a by x on 5; swap y x on 5; swap y z on 5;", "a z"},
		{"watch a by x on 5; swap x y on 5; swap x y on 5;", "a x"},
		{"swap x y on 5; watch a by x on 5; swap x y on 6;", "a x"},
		{"watch a by x on 5; swap x y on 5; watch a by x on 5; rest y on 5;", "a x"},
		{"watch a by a on 5; rest a on 5; watch b by a on 5; watch a by b on 5; cancel a on 5;", "b a"},
	} {
		if got := on(t, 5, x.source); got != x.want {
			t.Error(x, got)
		}
	}
}

func TestP8_3Random(t *testing.T) {
	r := random(20)
	several := 0
	for range 800 {
		last := oneOf(r, 3, 20, 400)
		w := randomRoster(r, 20, last)
		for range 10 {
			day := r.IntN(last + 1)
			want := plainDuties(w, day)
			if got, e := watch.Duties(w, day); !slices.Equal(got, want) || e != api.OK {
				t.Fatal(w, day, got, e, "instead of", want)
			}
			for _, tower := range []string{"n", "north", "s9", "other"} {
				if got, e := watch.Who(w, day, tower); !slices.Equal(got, plainWatchers(w, day, tower)) || e != api.OK {
					t.Fatal(w, day, tower, got, e)
				}
			}
			if len(want) > 2 {
				several++
			}
		}
	}
	counted(t, "days with several duties", several, 500)
}

func TestP8_3Errors(t *testing.T) {
	for day, want := range map[int]api.Errno{-1: api.ErrArg, 0: api.OK, 400: api.OK, 401: api.ErrArg, -1 << 63: api.ErrArg, 1<<63 - 1: api.ErrArg} {
		l, e := watch.Duties(rich(), day)
		mustBe(t, e, want, "Duties", day)
		who, e := watch.Who(rich(), day, "north")
		mustBe(t, e, want, "Who", day)
		if want != api.OK && len(l)+len(who) > 0 {
			t.Error(day, l, who)
		}
	}
	for _, tower := range append([]string{"", "A", "a b", "0", strings.Repeat("a", 25)}, reservedWords...) {
		who, e := watch.Who(rich(), 3, tower)
		if e != api.ErrArg || len(who) > 0 {
			t.Error(tower, who, e)
		}
	}
	if who, e := watch.Who(rich(), 3, strings.Repeat("a", 24)); len(who) > 0 || e != api.OK {
		t.Error(who, e)
	}
}

func TestP8_4Gaps(t *testing.T) {
	w := parsed(t, example)
	for _, x := range []struct {
		towers []string
		days   api.Span
		want   []api.Duty
	}{
		{[]string{"north", "south"}, span(4, 6), []api.Duty{duty(5, "north", ""), duty(5, "south", ""), duty(6, "north", ""), duty(6, "south", "")}},
		{[]string{"south", "north"}, span(4, 5), []api.Duty{duty(5, "south", ""), duty(5, "north", "")}},
		{[]string{"other"}, span(400, 400), []api.Duty{duty(400, "other", "")}},
		{[]string{"north"}, span(0, 2), []api.Duty{duty(0, "north", "")}},
		{nil, span(0, 400), nil},
	} {
		if got, e := watch.Gaps(w, x.towers, x.days); !slices.Equal(got, x.want) || e != api.OK {
			t.Error(x, got, e)
		}
	}
}

// towers returns different names of towers.
func towers(n int) []string {
	var out []string
	for i := range n {
		out = append(out, "t"+strconv.Itoa(i))
	}
	return out
}

func TestP8_4Errors(t *testing.T) {
	for _, x := range []struct {
		days api.Span
		e    api.Errno
	}{{span(0, 400), api.OK}, {span(7, 7), api.OK}, {span(8, 7), api.ErrArg}, {span(-1, 7), api.ErrArg}, {span(0, 401), api.ErrArg}, {span(401, 401), api.ErrArg}, {span(-1<<63, 1<<63-1), api.ErrArg}, {span(1<<63-1, -1<<63), api.ErrArg}} {
		for name, got := range ofWatch(rich(), own{days: x.days, towers: []string{"north"}}) {
			if slices.Contains([]string{"Gaps", "Doubles", "Loads", "Plain", "SameDays of the first", "SameDays of the second"}, name) && got.e != x.e {
				t.Error(name, x, got)
			}
		}
	}
	days := span(1, 2)
	for i, x := range []struct {
		towers []string
		days   api.Span
		e      api.Errno
	}{
		{towers(60), days, api.OK}, {towers(61), days, api.ErrLimit}, {slices.Repeat([]string{"a"}, 61), days, api.ErrLimit}, {append(towers(61), "on"), days, api.ErrArg}, {append(towers(61), "on"), span(2, 1), api.ErrArg},
		{[]string{"a", "b", "a"}, days, api.ErrTwice}, {[]string{"a", "a", "on"}, days, api.ErrArg}, {[]string{"a", ""}, days, api.ErrArg}, {[]string{"a", "a"}, span(0, 401), api.ErrArg}, {append(towers(59), "t0"), days, api.ErrTwice},
	} {
		got, e := watch.Gaps(rich(), x.towers, x.days)
		mustBe(t, e, x.e, i)
		if e != api.OK && len(got) > 0 {
			t.Error(i, got)
		}
	}
}

func TestP8_4DoublesAndLoads(t *testing.T) {
	w := parsed(t, "watch s by ann on 2; watch n by ann from 1 to 3; watch n by ben from 2 to 3; watch m by ben on 2; watch m by a on 2; watch s by ann on 3; rest ann on 3; watch n by ann on 3;")
	doubles, e := watch.Doubles(w, span(1, 3))
	if want := []api.Duty{duty(2, "n", "ann"), duty(2, "s", "ann"), duty(2, "m", "ben"), duty(2, "n", "ben")}; !slices.Equal(doubles, want) || e != api.OK {
		t.Error(doubles, e)
	}
	loads, e := watch.Loads(w, span(1, 3))
	if want := []api.Load{{Person: "a", Days: 1}, {Person: "ann", Days: 3}, {Person: "ben", Days: 2}}; !slices.Equal(loads, want) || e != api.OK {
		t.Error(loads, e)
	}
	loads, e = watch.Loads(parsed(t, example), span(1, 10))
	if want := []api.Load{{Person: "ann", Days: 5}, {Person: "ben", Days: 4}}; !slices.Equal(loads, want) || e != api.OK {
		t.Error(loads, e)
	}
	loads, e = watch.Loads(w, span(4, 400))
	if len(loads) > 0 || e != api.OK {
		t.Error(loads, e)
	}
}

func TestP8_4Random(t *testing.T) {
	r := random(21)
	several, free := 0, 0
	for range 500 {
		w := randomRoster(r, 20, 30)
		days := randomSpan(r, 31)
		var doubles, gaps []api.Duty
		load := map[string]int{}
		names := []string{"s9", "other", "north", "n"}
		for day := days.Lo; day <= days.Hi; day++ {
			duties := plainDuties(w, day)
			on := map[string][]string{}
			for _, d := range duties {
				on[d.Person] = append(on[d.Person], d.Tower)
			}
			for _, person := range slices.Sorted(maps.Keys(on)) {
				load[person]++
				for _, tower := range on[person] {
					if len(on[person]) > 1 {
						doubles = append(doubles, duty(day, tower, person))
					}
				}
			}
			for _, tower := range names {
				if len(plainWatchers(w, day, tower)) == 0 {
					gaps = append(gaps, duty(day, tower, ""))
				}
			}
		}
		var loads []api.Load
		for _, person := range slices.Sorted(maps.Keys(load)) {
			loads = append(loads, api.Load{Person: person, Days: load[person]})
		}
		if got, e := watch.Doubles(w, days); !slices.Equal(got, doubles) || e != api.OK {
			t.Fatal(w, days, got, e, "instead of", doubles)
		}
		if got, e := watch.Loads(w, days); !slices.Equal(got, loads) || e != api.OK {
			t.Fatal(w, days, got, e, "instead of", loads)
		}
		if got, e := watch.Gaps(w, names, days); !slices.Equal(got, gaps) || e != api.OK {
			t.Fatal(w, days, got, e, "instead of", gaps)
		}
		several += len(doubles)
		free += len(gaps)
	}
	counted(t, "duties of persons with several", several, 300)
	counted(t, "gaps", free, 1000)
}

func TestP8_5SameDays(t *testing.T) {
	w := parsed(t, example)
	for _, x := range []struct {
		other string
		days  api.Span
		day   int
		same  bool
	}{
		{example, span(0, 400), 0, true},
		{"watch north by ann from 1 to 3 every 2;", span(0, 400), 2, false},
		{"watch north by ann from 1 to 3 every 2;", span(3, 3), 0, true},
		{"watch north by ann from 1 to 3 every 2;", span(3, 4), 4, false},
		{"", span(11, 400), 0, true},
		{"watch a by b on 0;", span(0, 400), 0, false},
		{"watch north by ann on 3; watch north by ben on 3;", span(3, 3), 3, false},
		{"", span(10, 400), 10, false},
	} {
		for _, turned := range []bool{false, true} {
			a, b := w, parsed(t, x.other)
			if turned {
				a, b = b, a
			}
			if day, same, e := watch.SameDays(a, b, x.days); day != x.day || same != x.same || e != api.OK {
				t.Error(x, day, same, e)
			}
		}
	}
}

func TestP8_5Plain(t *testing.T) {
	evens := func(from, to int) string {
		return "watch n by ann from " + strconv.Itoa(from) + " to " + strconv.Itoa(to) + " every 2;"
	}
	for _, x := range []struct {
		source string
		days   api.Span
		want   string
	}{
		{example, span(1, 10), "watch north by ann from 1 to 9 except 2, 5, 6, 8;\nwatch north by ben from 2 to 10 except 3, 4, 5, 6, 7, 9;\nwatch south by ben on 4;\n"},
		{example, span(4, 5), "watch north by ann on 4;\nwatch south by ben on 4;\n"},
		{example, span(5, 6), ""},
		{"watch b by x on 5; watch a by y on 5; watch a by x on 5; watch a by x on 6; watch a1 by x on 6;", span(0, 400), "watch a by x from 5 to 6;\nwatch a by y on 5;\nwatch a1 by x on 6;\nwatch b by x on 5;\n"},
		{"watch a by x from 0 to 40; rest x from 3 to 22;", span(0, 400), "watch a by x from 0 to 40 except 3, 4, 5, 6, 7, 8, 9, 10, 11, 12, 13, 14, 15, 16, 17, 18, 19, 20, 21, 22;\n"},
		{"watch a by x from 0 to 40; rest x from 3 to 23; watch b by x on 9;", span(0, 400), "watch a by x from 0 to 2;\nwatch a by x from 24 to 40;\nwatch b by x on 9;\n"},
		{"watch a by x from 0 to 40; rest x from 3 to 23; rest x on 40; watch a by x on 10;", span(1, 400), "watch a by x from 1 to 39 except 3, 4, 5, 6, 7, 8, 9, 11, 12, 13, 14, 15, 16, 17, 18, 19, 20, 21, 22, 23;\n"},
		{evens(0, 40), span(0, 400), "watch n by ann from 0 to 40 except 1, 3, 5, 7, 9, 11, 13, 15, 17, 19, 21, 23, 25, 27, 29, 31, 33, 35, 37, 39;\n"},
		{evens(0, 42), span(0, 400), plainText(api.Watch{Lines: plainPlain(parsed(t, evens(0, 42)), span(0, 400))})},
	} {
		p, e := watch.Plain(parsed(t, x.source), x.days)
		got, _ := watch.Print(p)
		if got != x.want || e != api.OK {
			t.Error(x, got, e)
		}
	}
	for _, x := range []struct {
		source string
		lines  int
		e      api.Errno
	}{{evens(0, 118), 60, api.OK}, {evens(0, 120), 0, api.ErrLimit}, {evens(0, 118) + "watch a by b on 4;", 0, api.ErrLimit}, {evens(0, 400), 0, api.ErrLimit}} {
		if p, e := watch.Plain(parsed(t, x.source), span(0, 400)); len(p.Lines) != x.lines || e != x.e {
			t.Error(x, p, e)
		}
	}
	p, e := watch.Plain(rich(), span(0, 400))
	if len(p.Orders) > 0 || e != api.OK {
		t.Error(p, e)
	}
}

func TestP8_5Random(t *testing.T) {
	r := random(22)
	seen := map[api.Errno]int{}
	runs, differ := 0, 0
	for range 1500 {
		last := oneOf(r, 10, 50, 50, 400)
		a := randomRoster(r, 20, last)
		b := api.Watch{Lines: slices.Clone(a.Lines)}
		if r.IntN(4) == 0 {
			b.Lines = append(b.Lines, randomLine(r, last))
		} else if len(b.Lines) > 0 {
			i := r.IntN(len(b.Lines))
			b.Lines = slices.Delete(b.Lines, i, i+1)
		}
		days := randomSpan(r, last)
		want := plainPlain(a, days)
		got, e := watch.Plain(a, days)
		seen[e]++
		if len(want) > 60 {
			if e != api.ErrLimit || !zeroWatch(got) {
				t.Fatal(a, days, got, e)
			}
		} else if !sameWatch(got, api.Watch{Lines: want}) || e != api.OK {
			t.Fatal(a, days, got, e, "instead of", want)
		}
		if len(want) > 1 && want[0].Tower == want[1].Tower && want[0].Person == want[1].Person {
			runs++
		}
		first, same := 0, true
		for day := days.Hi; day >= days.Lo; day-- {
			if !slices.Equal(plainDuties(a, day), plainDuties(b, day)) {
				first, same = day, false
			}
		}
		if day, is, e := watch.SameDays(a, b, days); day != first || is != same || e != api.OK {
			t.Fatal(a, b, days, day, is, e)
		}
		if !same {
			differ++
		}
	}
	counted(t, "rosters with too many lines", seen[api.ErrLimit], 30)
	counted(t, "rosters with runs", runs, 30)
	counted(t, "rosters that differ", differ, 300)
}

func TestP8_11Plain(t *testing.T) {
	r := random(23)
	equal, other := 0, 0
	for range 2500 {
		last := oneOf(r, 4, 30, 400)
		a := randomRoster(r, 8, last)
		days := randomSpan(r, last)
		p, e := watch.Plain(a, days)
		if e != api.OK {
			continue
		}
		for day := days.Lo; day <= days.Hi; day++ {
			want, _ := watch.Duties(a, day)
			if got, e := watch.Duties(p, day); !slices.Equal(got, want) || e != api.OK {
				t.Fatal(a, p, day, got, e)
			}
		}
		if again, e := watch.Plain(p, days); !sameWatch(again, p) || e != api.OK {
			t.Fatal(a, p, again, e)
		}
		b := api.Watch{Lines: slices.Clone(a.Lines)}
		if i := r.IntN(len(b.Lines) + 1); i < len(b.Lines) {
			b.Lines = slices.Insert(slices.Delete(b.Lines, i, i+1), r.IntN(len(b.Lines)), a.Lines[i])
		} else if r.IntN(2) == 0 {
			b = p
		} else {
			b.Lines = append(b.Lines, randomLine(r, last))
		}
		q, e := watch.Plain(b, days)
		if e != api.OK {
			continue
		}
		_, same, e := watch.SameDays(a, b, days)
		if same != sameWatch(p, q) || e != api.OK {
			t.Fatal(a, b, days, p, q, same, e)
		}
		if same {
			equal++
		} else {
			other++
		}
	}
	counted(t, "rosters that mean the same", equal, 300)
	counted(t, "rosters that do not", other, 100)
}

func TestP8_12GapsAndLoads(t *testing.T) {
	r := random(24)
	rests := 0
	for range 500 {
		w := randomRoster(r, 15, 30)
		if r.IntN(2) == 0 {
			w.Lines = append(w.Lines, api.Line{Kind: api.LiRest, Person: randomPerson(r), From: r.IntN(5), To: 30, Every: 1 + r.IntN(2)})
		}
		days := randomSpan(r, 30)
		gaps, _ := watch.Gaps(w, []string{"n", "s9"}, days)
		busy := 0
		for day := days.Lo; day <= days.Hi; day++ {
			for _, tower := range []string{"n", "s9"} {
				who, e := watch.Who(w, day, tower)
				if slices.Contains(gaps, duty(day, tower, "")) != (len(who) == 0) || e != api.OK {
					t.Fatal(w, day, tower, who, e)
				}
			}
			l, _ := watch.Duties(w, day)
			persons := map[string]bool{}
			for _, d := range l {
				persons[d.Person] = true
			}
			busy += len(persons)
			if n := len(w.Lines); n > 0 && w.Lines[n-1].Kind == api.LiRest && plainFor(w.Lines[n-1], day) {
				rests++
				if persons[w.Lines[n-1].Person] {
					t.Fatal(w, day, l)
				}
			}
		}
		loads, e := watch.Loads(w, days)
		sum := 0
		for _, l := range loads {
			sum += l.Days
		}
		if sum != busy || e != api.OK {
			t.Fatal(w, days, loads, e, busy)
		}
	}
	counted(t, "days of a last rest", rests, 1000)
}
