package crew_test

import (
	"math/rand/v2"
	"reflect"
	"slices"
	"testing"

	"firetower/api"
	"firetower/crew"
)

// plainOffice is an office that writes everything down.
type plainOffice struct {
	trails []api.Trail
	crews  []api.Crew
	sent   map[int]bool // by the IDs of crews
	smokes []api.Blaze
	orders []api.Errand
	deeds  []api.Deed // those that were done
}

func newPlain(l []api.Trail, crews []api.Crew) *plainOffice {
	return &plainOffice{trails: l, crews: slices.Clone(crews), sent: map[int]bool{}}
}

func stands(x api.Errand) bool { return !x.Recalled && !x.Done }

// standing returns the order that stands for a smoke.
func (p *plainOffice) standing(id int) (api.Errand, bool) {
	for _, x := range p.orders {
		if x.Blaze == id && stands(x) {
			return x, true
		}
	}
	return api.Errand{}, false
}

// recall recalls the order that stands for a smoke.
func (p *plainOffice) recall(id int) {
	for i, x := range p.orders {
		if x.Blaze == id && stands(x) {
			p.orders[i].Recalled = true
		}
	}
}

func (p *plainOffice) free() []api.Crew {
	return slices.DeleteFunc(slices.Clone(p.crews), func(c api.Crew) bool { return p.sent[c.ID] })
}

// waiting returns the smokes that are proved, and for which no order stands.
func (p *plainOffice) waiting() []api.Blaze {
	return slices.DeleteFunc(slices.Clone(p.smokes), func(b api.Blaze) bool {
		_, is := p.standing(b.ID)
		return is || !b.Proved
	})
}

// follows returns the IDs of the orders that follow from a deed.
func (p *plainOffice) follows(deed int) []int {
	var out []int
	for _, x := range p.orders {
		if slices.Contains(x.Deeds, deed) {
			out = append(out, x.ID)
		}
	}
	return out
}

// last returns the number of the last deed that is so; 0 if none is.
func (p *plainOffice) last(is func(d api.Deed) bool) int {
	for i, d := range slices.Backward(p.deeds) {
		if is(d) {
			return i + 1
		}
	}
	return 0
}

func plainMinute(n int) bool { return n >= 0 && n <= 1<<20 }

func plainPlace(p api.Place) bool { return p.X >= 0 && p.X <= 48 && p.Y >= 0 && p.Y <= 48 }

// plainSmoke reports whether a smoke is valid.
func plainSmoke(b api.Blaze) bool {
	for i, p := range b.Cell {
		if !plainPlace(p) || i > 0 && b.Cell[i-1].Y*49+b.Cell[i-1].X >= p.Y*49+p.X {
			return false
		}
	}
	return b.ID >= 1 && b.ID <= 1<<40 && len(b.Cell) >= 1 && len(b.Cell) <= 200
}

// has reports which fields of a deed are not zero, in the order ID, Tick, At, Blaze.
func has(d api.Deed) [4]bool {
	return [4]bool{d.ID != 0, d.Tick != 0, d.At != api.Place{}, d.Blaze.ID != 0 || len(d.Blaze.Cell) > 0 || d.Blaze.Proved}
}

// plainFormed reports whether a deed has only fields of its kind.
func plainFormed(d api.Deed) bool {
	may := map[int][4]bool{api.DeBlaze: {3: true}, api.DeWithdraw: {0: true}, api.DeSend: {1: true}, api.DeDone: {true, true, true, false}}
	fields, is := may[d.Kind]
	for i, n := range has(d) {
		is = is && (fields[i] || !n)
	}
	return is
}

func (p *plainOffice) do(d api.Deed) api.Errno {
	if !plainFormed(d) {
		return api.ErrArg
	}
	kinds := map[int]func(d api.Deed) api.Errno{api.DeBlaze: p.blaze, api.DeWithdraw: p.withdraw, api.DeSend: p.send, api.DeDone: p.done}
	e := kinds[d.Kind](d)
	if e == api.OK {
		p.deeds = append(p.deeds, d)
	}
	return e
}

func (p *plainOffice) at(id int) int {
	return slices.IndexFunc(p.smokes, func(b api.Blaze) bool { return b.ID == id })
}

func (p *plainOffice) blaze(d api.Deed) api.Errno {
	i := p.at(d.Blaze.ID)
	switch {
	case !plainSmoke(d.Blaze):
		return api.ErrArg
	case i < 0 && len(p.smokes) == 8:
		return api.ErrLimit
	case i < 0:
		p.smokes = append(p.smokes, d.Blaze)
	default:
		p.smokes[i] = d.Blaze
	}
	if !d.Blaze.Proved {
		p.recall(d.Blaze.ID)
	}
	return api.OK
}

func (p *plainOffice) withdraw(d api.Deed) api.Errno {
	i := p.at(d.ID)
	if i < 0 {
		return api.ErrNone
	}
	p.smokes = less(p.smokes, i)
	p.recall(d.ID)
	return api.OK
}

func (p *plainOffice) send(d api.Deed) api.Errno {
	if !plainMinute(d.Tick) {
		return api.ErrArg
	}
	crews, smokes := p.free(), p.waiting()
	best := plainBest(plainTimes(p.trails, crews, smokes, d.Tick))[0]
	if len(p.orders)+len(best) > 200 {
		return api.ErrLimit
	}
	for _, s := range best {
		c, b := crews[s.Crew].ID, smokes[s.Blaze].ID
		deeds := []int{p.last(func(o api.Deed) bool { return o.Kind == api.DeBlaze && o.Blaze.ID == b })}
		if n := p.last(func(o api.Deed) bool { return o.Kind == api.DeDone && o.ID == c }); n > 0 {
			deeds = append(deeds, n)
		}
		slices.Sort(deeds)
		p.orders = append(p.orders, api.Errand{ID: len(p.orders) + 1, Crew: c, Blaze: b, Tick: d.Tick, Deeds: append(deeds, len(p.deeds)+1)})
		p.sent[c] = true
	}
	return api.OK
}

func (p *plainOffice) done(d api.Deed) api.Errno {
	i := slices.IndexFunc(p.crews, func(c api.Crew) bool { return c.ID == d.ID })
	switch {
	case i < 0:
		return api.ErrNone
	case !p.sent[d.ID]:
		return api.ErrState
	case !plainPlace(d.At) || !plainMinute(d.Tick):
		return api.ErrArg
	}
	p.crews[i] = api.Crew{ID: d.ID, At: d.At, Free: d.Tick}
	p.sent[d.ID] = false
	last := 0
	for j, x := range p.orders {
		if x.Crew == d.ID {
			last = j
		}
	}
	p.orders[last].Done = true
	return api.OK
}

// sameOrders reports whether two lists of orders are the same.
func sameOrders(a, b []api.Errand) bool {
	return slices.EqualFunc(a, b, func(x, y api.Errand) bool { return reflect.DeepEqual(x, y) })
}

// same holds all that an office tells against a plain one.
func same(t *testing.T, o *crew.Office, p *plainOffice, what any) {
	t.Helper()
	if got := o.Orders(); !sameOrders(got, p.orders) {
		t.Fatal(what, "Orders:", got, "instead of", p.orders)
	}
	if got := o.Crews(); !slices.Equal(got, p.free()) {
		t.Fatal(what, "Crews:", got, "instead of", p.free())
	}
	for id := -1; id < 24; id++ {
		want, stands := p.standing(id)
		if who, is := o.Sent(id); who != want.Crew || is != stands {
			t.Fatal(what, "Sent:", id, who, is, "instead of", want.Crew, stands)
		}
	}
	for n := -1; n <= len(p.deeds)+2; n++ {
		want := api.OK
		if n < 1 || n > len(p.deeds) {
			want = api.ErrNone
		}
		if got, e := o.Follows(n); !slices.Equal(got, p.follows(n)) || e != want {
			t.Fatal(what, "Follows:", n, got, e, "instead of", p.follows(n), want)
		}
	}
}

// both is an office and a plain one in which the same is done.
type both struct {
	t *testing.T
	o *crew.Office
	p *plainOffice
}

func newBoth(t *testing.T, l []api.Trail, crews []api.Crew) both {
	t.Helper()
	o, e := crew.New(l, crews)
	if e != api.OK || o == nil {
		t.Fatal("New:", l, crews, e)
	}
	b := both{t, o, newPlain(l, crews)}
	same(t, o, b.p, "at the beginning")
	return b
}

// do does a deed in both offices, and holds them against each other.
func (b both) do(d api.Deed) api.Errno {
	b.t.Helper()
	want := b.p.do(d)
	if got := b.o.Do(d); got != want {
		b.t.Fatal(d, "Do:", got, "instead of", want)
	}
	same(b.t, b.o, b.p, d)
	return want
}

// must does deeds that have an answer.
func (b both) must(want api.Errno, l ...api.Deed) {
	b.t.Helper()
	for _, d := range l {
		if got := b.do(d); got != want {
			b.t.Fatal(d, "Do:", got, "instead of", want)
		}
	}
}

func tell(b api.Blaze) api.Deed { return api.Deed{Kind: api.DeBlaze, Blaze: b} }

func withdraw(id int) api.Deed { return api.Deed{Kind: api.DeWithdraw, ID: id} }

func send(tick int) api.Deed { return api.Deed{Kind: api.DeSend, Tick: tick} }

func done(id int, p api.Place, tick int) api.Deed {
	return api.Deed{Kind: api.DeDone, ID: id, At: p, Tick: tick}
}

// named returns a smoke that is proved, with an ID.
func named(id int, l ...api.Place) api.Blaze {
	return api.Blaze{ID: id, Cell: l, Proved: true}
}

// unproved returns a smoke that is not proved.
func unproved(b api.Blaze) api.Blaze {
	b.Proved = false
	return b
}

// randomDeed returns a deed, mostly one that can be done.
func randomDeed(r *rand.Rand, p *plainOffice) api.Deed {
	n := 1 + r.IntN(10)
	switch r.IntN(10) {
	case 0:
		return withdraw(n)
	case 1, 2, 3:
		return send(r.IntN(70))
	case 4, 5, 6:
		if len(p.crews) > 0 {
			n = oneOf(r, p.crews).ID
		}
		return done(n, oneOf(r, grid()), r.IntN(70))
	}
	return tell(randomBlaze(r, n))
}
