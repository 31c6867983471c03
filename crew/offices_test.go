package crew_test

import (
	"fmt"
	"math"
	"slices"
	"testing"

	"firetower/api"
	"firetower/crew"
)

func TestP9_9New(t *testing.T) {
	for _, l := range [][]api.Crew{nil, someCrews(1), someCrews(6), {{ID: 1 << 40, At: at(48, 48), Free: 1 << 20}, {ID: 1}}} {
		o, e := crew.New(example(), l)
		if e != api.OK || !slices.Equal(o.Crews(), l) || len(o.Orders()) > 0 {
			t.Error(l, o, e)
		}
		if who, is := o.Sent(1); who != 0 || is {
			t.Error(who, is)
		}
		for _, n := range []int{-1, 0, 1} {
			if l, e := o.Follows(n); len(l) > 0 || e != api.ErrNone {
				t.Error(n, l, e)
			}
		}
	}
}

func TestP9_9NewErrors(t *testing.T) {
	for _, x := range wrongCrews() {
		l := someCrews(3)
		x.do(&l)
		if o, e := crew.New(example(), l); o != nil || e != x.e {
			t.Error(x.name, o, e)
		}
	}
	for _, x := range wrongTrails() {
		l := example()
		x.do(&l)
		for _, n := range []int{2, 7} {
			if o, e := crew.New(l, someCrews(n)); o != nil || e != x.e {
				t.Error(x.name, o, e)
			}
		}
	}
}

func TestP9_10KindsAndFields(t *testing.T) {
	b := newBoth(t, example(), []api.Crew{{ID: 3}, {ID: 4}})
	smoke := named(7, at(11, 0))
	b.must(api.OK, tell(smoke), send(5))
	right := []api.Deed{tell(smoke), withdraw(7), send(5), done(3, at(1, 1), 9)}
	fields := []func(d *api.Deed){
		func(d *api.Deed) { d.ID = 3 },
		func(d *api.Deed) { d.ID = -1 },
		func(d *api.Deed) { d.Tick = 7 },
		func(d *api.Deed) { d.Tick = math.MinInt },
		func(d *api.Deed) { d.At = at(1, 0) },
		func(d *api.Deed) { d.At = at(0, -1) },
		func(d *api.Deed) { d.Blaze.ID = 7 },
		func(d *api.Deed) { d.Blaze.Cell = []api.Place{at(0, 0)} },
		func(d *api.Deed) { d.Blaze.Proved = true },
	}
	wrong := [][]int{{0, 1, 2, 3, 4, 5}, {2, 3, 4, 5, 6, 7, 8}, {0, 1, 4, 5, 6, 7, 8}, {6, 7, 8}}
	for i, d := range right {
		for _, n := range wrong[i] {
			x := d
			fields[n](&x)
			b.must(api.ErrArg, x)
		}
		for _, kind := range []int{0, -1, 5, 1 << 40} {
			x := d
			x.Kind = kind
			b.must(api.ErrArg, x, api.Deed{Kind: kind})
		}
	}
	b.must(api.ErrArg, api.Deed{}, tell(api.Blaze{}))
	x := done(3, at(1, 1), 9)
	x.Blaze.Cell = []api.Place{}
	b.must(api.OK, x)
	for _, d := range []api.Deed{withdraw(7), tell(smoke), send(5)} {
		if d.Kind != api.DeBlaze {
			d.Blaze.Cell = []api.Place{}
		}
		b.must(api.OK, d)
	}
}

func TestP9_10Blaze(t *testing.T) {
	b := newBoth(t, example(), []api.Crew{{ID: 3}})
	for _, x := range wrongBlazesAlone() {
		s := named(1, at(1, 1))
		x.do(&s)
		b.must(api.ErrArg, tell(s))
	}
	for id := range 8 {
		b.must(api.OK, tell(unproved(named(id+1, at(id, 0)))))
	}
	b.must(api.ErrLimit, tell(named(9, at(1, 1))))
	b.must(api.ErrArg, tell(named(9)), tell(named(0, at(1, 1))))
	b.must(api.OK, tell(named(8, at(40, 40))), send(1), tell(named(1, cellOf(200)...)))
	b.must(api.ErrLimit, tell(unproved(named(9, at(1, 1)))))
	b.must(api.OK, withdraw(3), tell(named(1<<40, at(48, 48))))
	b.must(api.ErrLimit, tell(named(3, at(1, 1))))
	if who, is := b.o.Sent(8); who != 3 || !is {
		t.Error(who, is)
	}
}

// An order stands for a smoke that is told anew, wherever it stands now, until it is not proved.
func TestP9_10BlazeAnew(t *testing.T) {
	b := newBoth(t, example(), []api.Crew{{ID: 3}, {ID: 4, At: at(40, 40)}})
	first, moved := named(7, at(1, 1)), named(7, at(30, 30))
	b.must(api.OK, tell(first), tell(unproved(named(8, at(2, 2)))), send(0), tell(moved), send(1))
	if l := b.o.Orders(); len(l) != 1 || l[0].Recalled || l[0].Done || !slices.Equal(l[0].Deeds, []int{1, 3}) {
		t.Error(l)
	}
	b.must(api.OK, tell(unproved(moved)), send(2), tell(moved), send(3))
	l := b.o.Orders()
	if len(l) != 2 || !l[0].Recalled || l[0].Done || l[1].Crew != 4 || !slices.Equal(l[1].Deeds, []int{8, 9}) {
		t.Error(l)
	}
	b.must(api.OK, done(3, at(1, 1), 9))
	if who, is := b.o.Sent(7); who != 4 || !is {
		t.Error("the order of a recalled crew was done, and another one stands no more:", who, is)
	}
	if l := b.o.Orders(); !l[0].Recalled || !l[0].Done || l[1].Recalled || l[1].Done {
		t.Error(l)
	}
	b.must(api.OK, withdraw(7))
	if l := b.o.Orders(); !l[1].Recalled || l[1].Done {
		t.Error(l)
	}
	b.must(api.OK, tell(moved), done(4, at(2, 2), 0), tell(unproved(moved)))
	if l := b.o.Orders(); len(l) != 2 || !l[1].Recalled || !l[1].Done {
		t.Error(l)
	}
}

// What is done is not recalled any more.
func TestP9_10DoneOrdersAreNotRecalled(t *testing.T) {
	b := newBoth(t, nil, []api.Crew{{ID: 3}})
	s := named(7, at(1, 1))
	b.must(api.OK, tell(s), send(0), done(3, at(1, 1), 5), tell(unproved(s)), withdraw(7))
	if l := b.o.Orders(); len(l) != 1 || l[0].Recalled || !l[0].Done {
		t.Error(l)
	}
	b.must(api.ErrNone, withdraw(7))
	b.must(api.OK, tell(s), send(3), done(3, at(1, 1), 5), send(4))
	if l := b.o.Orders(); len(l) != 3 || l[1].Recalled || !l[1].Done || l[2].Recalled || l[2].Done {
		t.Error("a smoke whose order is done is served again:", l)
	}
}

func TestP9_10Withdraw(t *testing.T) {
	b := newBoth(t, example(), []api.Crew{{ID: 3}})
	b.must(api.ErrNone, withdraw(7), withdraw(0), withdraw(-5), withdraw(math.MaxInt))
	b.must(api.OK, tell(named(7, at(1, 1))), send(4), withdraw(7))
	if l := b.o.Orders(); !l[0].Recalled || l[0].Done || len(b.o.Crews()) > 0 {
		t.Error(l)
	}
	b.must(api.ErrNone, withdraw(7))
	b.must(api.OK, tell(named(7, at(1, 1))), send(5))
	if _, is := b.o.Sent(7); is {
		t.Error("a crew that was recalled is still sent")
	}
}

func TestP9_10Send(t *testing.T) {
	crews := []api.Crew{{ID: 9, At: at(5, 5)}, {ID: 2, At: at(5, 5)}, {ID: 4, At: at(0, 0), Free: 400}}
	b := newBoth(t, nil, crews)
	for _, tick := range outside(0, 1<<20) {
		b.must(api.ErrArg, send(tick))
	}
	b.must(api.OK, send(0), send(1<<20), tell(unproved(named(6, at(5, 5)))), send(0))
	if len(b.o.Orders()) > 0 {
		t.Error("a crew is sent to no smoke, or to one that is not proved:", b.o.Orders())
	}
	b.must(api.OK, tell(named(8, at(6, 5))), tell(named(1, at(4, 5))), tell(named(6, at(5, 6))), send(7))
	l := b.o.Orders()
	var got [][3]int
	for _, x := range l {
		got = append(got, [3]int{x.ID, x.Crew, x.Blaze})
		if x.Tick != 7 || x.Recalled || x.Done {
			t.Error(x)
		}
	}
	// The smokes are in the order 6, 8, 1, and the third crew is free too late.
	if !slices.Equal(got, [][3]int{{1, 9, 6}, {2, 2, 8}, {3, 4, 1}}) {
		t.Error(got)
	}
	for i, want := range [][]int{{7, 8}, {5, 8}, {6, 8}} {
		if !slices.Equal(l[i].Deeds, want) {
			t.Error(l[i])
		}
	}
}

// Of several best sends the first crew is sent to the first smoke, in the order of New, and in that of the smokes.
func TestP9_10OrderOfCrewsAndSmokes(t *testing.T) {
	two := []api.Crew{{ID: 9}, {ID: 2}}
	b := newBoth(t, nil, two)
	b.must(api.OK, tell(named(5, at(1, 1))), send(0))
	if who, _ := b.o.Sent(5); who != 9 {
		t.Error(who)
	}
	for _, x := range []struct {
		l    []api.Deed
		want int
	}{
		{[]api.Deed{tell(named(5, at(1, 0))), tell(named(3, at(1, 1))), tell(named(4, at(0, 1)))}, 5},
		{[]api.Deed{tell(named(5, at(1, 0))), tell(named(3, at(1, 1))), withdraw(5), tell(named(5, at(1, 0)))}, 3},
		{[]api.Deed{tell(named(5, at(1, 0))), tell(named(3, at(1, 1))), tell(named(5, at(0, 1)))}, 5},
		{[]api.Deed{tell(unproved(named(5, at(1, 0)))), tell(named(3, at(1, 1))), tell(named(5, at(0, 1)))}, 5},
		{[]api.Deed{tell(named(5, at(1, 0))), tell(named(3, at(1, 1))), tell(unproved(named(5, at(0, 1))))}, 3},
		{[]api.Deed{tell(named(5, at(2, 0))), tell(named(3, at(1, 1)))}, 3},
		{[]api.Deed{tell(named(5, at(1, 0), at(2, 0))), tell(named(3, at(1, 1)))}, 3},
	} {
		b := newBoth(t, nil, two[:1])
		b.must(api.OK, x.l...)
		b.must(api.OK, send(0))
		if l := b.o.Orders(); len(l) != 1 || l[0].Blaze != x.want {
			t.Error(x, l)
		}
	}
}

func TestP9_10Done(t *testing.T) {
	b := newBoth(t, nil, []api.Crew{{ID: 3}, {ID: 5, At: at(9, 9)}})
	b.must(api.OK, tell(named(7, at(1, 1))), send(4))
	b.must(api.ErrNone, done(4, at(1, 1), 0), done(4, at(-1, 1), -1), done(0, at(1, 1), 0), done(7, at(1, 1), 0))
	b.must(api.ErrState, done(5, at(1, 1), 0), done(5, at(49, 1), 0), done(5, at(1, 1), -1))
	for _, p := range wrongPlaces() {
		b.must(api.ErrArg, done(3, p, 0))
	}
	for _, tick := range outside(0, 1<<20) {
		b.must(api.ErrArg, done(3, at(1, 1), tick))
	}
	b.must(api.OK, done(3, at(48, 48), 1<<20))
	b.must(api.ErrState, done(3, at(48, 48), 1<<20))
	if l := b.o.Crews(); !slices.Equal(l, []api.Crew{{ID: 3, At: at(48, 48), Free: 1 << 20}, {ID: 5, At: at(9, 9)}}) {
		t.Error(l)
	}
	b.must(api.OK, send(5), done(5, at(0, 0), 0), send(6), done(5, at(2, 0), 2))
	l := b.o.Orders()
	if len(l) != 3 || !slices.Equal(l[1].Deeds, []int{1, 4}) || !slices.Equal(l[2].Deeds, []int{1, 5, 6}) || !l[2].Done || l[2].Crew != 5 {
		t.Error("sent from where it is free, and when:", l)
	}
	b.must(api.OK, send(9))
	if l := b.o.Orders(); !slices.Equal(l[3].Deeds, []int{1, 7, 8}) {
		t.Error("the last DeDone of the crew, and the last DeBlaze of the smoke:", l)
	}
}

// There are at most 200 orders; what would be more is not done at all.
func TestP9_10Orders200(t *testing.T) {
	crews := someCrews(6)
	o, e := crew.New(nil, crews)
	mustBe(t, e, api.OK, "New")
	for id := range 8 {
		mustBe(t, o.Do(tell(named(id+1, at(id, 0)))), api.OK, "tell")
	}
	free := func(l []api.Crew) {
		for _, c := range l {
			mustBe(t, o.Do(done(c.ID, c.At, 0)), api.OK, "done")
		}
	}
	for range 33 {
		mustBe(t, o.Do(send(0)), api.OK, "send")
		free(crews)
	}
	before := fmt.Sprint(o.Orders(), o.Crews())
	mustBe(t, o.Do(send(0)), api.ErrLimit, "six orders more than 198")
	if after := fmt.Sprint(o.Orders(), o.Crews()); after != before || len(o.Orders()) != 198 {
		t.Error(after, "instead of", before)
	}
	for id := range 6 {
		mustBe(t, o.Do(withdraw(id+1)), api.OK, "withdraw")
	}
	mustBe(t, o.Do(send(0)), api.OK, "two orders more than 198")
	l := o.Orders()
	if len(l) != 200 || l[199].ID != 200 {
		t.Error(len(l), l[len(l)-1])
	}
	// 8 smokes, 33 times six crews that are sent and free again, 6 smokes less, and this deed.
	if last := 8 + 33*7 + 6 + 1; l[199].Deeds[2] != last {
		t.Error(l[199], "instead of", last)
	}
	mustBe(t, o.Do(send(0)), api.OK, "no order more than 200")
	mustBe(t, o.Do(tell(named(9, at(3, 3)))), api.OK, "tell")
	mustBe(t, o.Do(send(0)), api.ErrLimit, "one order more than 200")
	mustBe(t, o.Do(send(-1)), api.ErrArg, "the minute comes first")
	mustBe(t, o.Do(withdraw(9)), api.OK, "withdraw")
	free([]api.Crew{{ID: l[199].Crew}})
	if l := o.Orders(); len(l) != 200 || !l[199].Done {
		t.Error(l[199])
	}
}

func TestP9_11Follows(t *testing.T) {
	b := newBoth(t, nil, someCrews(3))
	b.must(api.OK, tell(named(1, at(1, 1))), tell(named(2, at(2, 2))), send(0), withdraw(1), done(50, at(1, 1), 3), tell(named(1, at(3, 3))), tell(named(3, at(4, 4))), send(4))
	for n, want := range map[int][]int{1: {1}, 2: {2}, 3: {1, 2}, 4: nil, 6: {3}, 7: {4}, 8: {3, 4}} {
		if got, e := b.o.Follows(n); e != api.OK || !slices.Equal(got, want) {
			t.Error(n, got, e, "instead of", want)
		}
	}
	for _, n := range []int{0, -1, 9, math.MaxInt, math.MinInt} {
		if got, e := b.o.Follows(n); e != api.ErrNone || len(got) > 0 {
			t.Error(n, got, e)
		}
	}
}

// Asking changes nothing.
func TestP9_11QuestionsAreNoDeeds(t *testing.T) {
	r := random(14)
	b := newBoth(t, randomTrails(r), randomCrews(r, 6))
	for range 60 {
		b.do(randomDeed(r, b.p))
		same(t, b.o, b.p, "asked again")
	}
}

func TestP9_10AtRandom(t *testing.T) {
	r := random(15)
	errors := map[api.Errno]int{}
	orders, recalled, both, again := 0, 0, 0, 0
	for range 40 {
		b := newBoth(t, randomTrails(r), randomCrews(r, 6))
		for range 120 {
			errors[b.do(randomDeed(r, b.p))]++
		}
		for _, x := range b.o.Orders() {
			orders++
			if x.Recalled {
				recalled++
			}
			if x.Recalled && x.Done {
				both++
			}
			if len(x.Deeds) == 3 {
				again++
			}
		}
	}
	for _, e := range []api.Errno{api.OK, api.ErrLimit, api.ErrState, api.ErrNone} {
		counted(t, fmt.Sprint("errors ", e), errors[e], 50)
	}
	counted(t, "orders", orders, 500)
	counted(t, "orders that were recalled", recalled, 100)
	counted(t, "orders that were recalled and done", both, 50)
	counted(t, "orders of crews that were free again", again, 300)
}
