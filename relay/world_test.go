package relay_test

import (
	"math"
	"slices"
	"strings"
	"testing"

	"firetower/api"
	"firetower/relay"
)

func TestP2_7New(t *testing.T) {
	for _, x := range [][2]int{{1, 1}, {1, 1440}, {10, 1}, {10, 1440}, {2, 10}} {
		newBoth(t, x[0], x[1])
	}
	for _, x := range [][2]int{{0, 10}, {-1, 10}, {11, 10}, {2, 0}, {2, -1}, {2, 1441}, {0, 0}, {math.MinInt, 10}, {math.MaxInt, 10}, {2, math.MaxInt}} {
		if w, e := relay.New(x[0], x[1]); e != api.ErrArg || w != nil {
			t.Error(x, e)
		}
	}
}

func TestP2_7WorldsAreApart(t *testing.T) {
	one, other := newBoth(t, 2, 10), newBoth(t, 2, 10)
	one.must(api.OK, say(0, 1, "x"))
	same(t, other.w, other.p, "another world")
	other.must(api.OK, tick(5))
	same(t, one.w, one.p, "another world")
}

func TestP2_8Example(t *testing.T) {
	b := newBoth(t, 2, 10)
	b.must(api.OK, say(0, 1, "x"))
	b.must(api.OK, say(0, 1, "y"))
	b.must(api.OK, deliver(2))
	want := []api.Mail{{ID: 1, Kind: api.MaWord, From: 0, To: 1, Number: 1, Text: "x"}, {ID: 3, Kind: api.MaReceipt, From: 1, To: 0, Number: 1}}
	if l := b.w.Mails(); !slices.Equal(l, want) || len(b.w.Heard(1, 0)) != 0 || b.w.Open(0, 1) != 2 {
		t.Error(l, b.w.Heard(1, 0), b.w.Open(0, 1))
	}
	b.must(api.OK, deliver(1))
	want = []api.Mail{want[1], {ID: 4, Kind: api.MaReceipt, From: 1, To: 0, Number: 2}}
	if l := b.w.Mails(); !slices.Equal(l, want) || !slices.Equal(b.w.Heard(1, 0), []string{"x"}) {
		t.Error(l, b.w.Heard(1, 0))
	}
	b.must(api.OK, deliver(4))
	if due, is := b.w.Due(0, 1); b.w.Open(0, 1) != 1 || due != 10 || !is {
		t.Error(b.w.Open(0, 1), due, is)
	}
	b.must(api.OK, tick(10))
	want = []api.Mail{want[0], {ID: 5, Kind: api.MaWord, From: 0, To: 1, Number: 2, Text: "y"}}
	if l := b.w.Mails(); !slices.Equal(l, want) || b.w.Tick() != 10 {
		t.Error(l, b.w.Tick())
	}
}

func TestP2_8Say(t *testing.T) {
	b := newBoth(t, 3, 10)
	b.must(api.OK, say(0, 1, ""))
	b.must(api.OK, tick(4))
	b.must(api.OK, say(0, 1, strings.Repeat("a", 40))) // due as before
	b.must(api.OK, say(2, 1, "\x00\xff\n"))
	b.must(api.OK, say(1, 0, "back"))
	for _, s := range []api.Step{
		say(0, 0, "x"), say(1, 1, "x"), say(-1, 1, "x"), say(0, -1, "x"), say(3, 1, "x"), say(0, 3, "x"), say(-1, -1, ""), say(3, 3, ""),
		say(math.MinInt, 1, "x"), say(0, math.MaxInt, "x"), say(0, 1, strings.Repeat("a", 41)),
	} {
		b.must(api.ErrArg, s)
	}
}

func TestP2_8SayTooMuch(t *testing.T) {
	b := newBoth(t, 2, 10)
	for i := range 60 {
		b.must(api.OK, say(0, 1, "x"))
		b.must(api.OK, lose(i+1))
	}
	b.must(api.ErrLimit, say(0, 1, "x"))
	b.must(api.ErrArg, say(0, 1, strings.Repeat("a", 41)))
	b.must(api.OK, say(1, 0, "x"))
	for {
		n := b.p.last
		b.must(api.OK, double(n))
		if len(b.p.mails) == 200 {
			break
		}
	}
	b.must(api.ErrLimit, say(1, 0, "x"))
	b.must(api.ErrArg, say(1, 1, "x"))
	b.must(api.ErrLimit, double(b.p.last))
	b.must(api.ErrNone, double(1))
	b.must(api.OK, lose(b.p.last))
	b.must(api.OK, say(1, 0, "x"))
	b.must(api.ErrLimit, say(1, 0, "x"))
	b.must(api.OK, deliver(b.p.last)) // its own room is that of the receipt
	b.must(api.ErrLimit, say(1, 0, "x"))
}

func TestP2_8Tick(t *testing.T) {
	b := newBoth(t, 3, 10)
	b.must(api.OK, tick(0))
	b.must(api.OK, say(1, 0, "later"))
	b.must(api.OK, tick(3))
	b.must(api.OK, say(0, 2, "a"))
	b.must(api.OK, say(0, 1, "b"))
	b.must(api.OK, say(0, 1, "c"))
	b.must(api.OK, tick(9))
	b.must(api.OK, tick(10)) // 1 to 0 is due
	b.must(api.OK, tick(12))
	b.must(api.OK, tick(13)) // 0 to 1 and then 0 to 2 are due
	b.must(api.OK, tick(13)) // and not again
	b.must(api.OK, tick(500))
	b.must(api.ErrArg, tick(499))
	b.must(api.ErrArg, tick(-1))
	b.must(api.ErrArg, tick(math.MinInt))
	b.must(api.ErrArg, tick(api.MaxTick+1))
	b.must(api.ErrArg, tick(math.MaxInt))
	b.must(api.OK, tick(api.MaxTick))
	if due, is := b.w.Due(0, 1); due != api.MaxTick+10 || !is {
		t.Error(due, is)
	}
	b.must(api.OK, tick(api.MaxTick))
}

func TestP2_8TickWithoutRoom(t *testing.T) {
	for free := range 8 {
		b := newBoth(t, 3, 10)
		for range 4 {
			b.must(api.OK, say(0, 1, "x"))
			b.must(api.OK, say(0, 2, "y"))
		}
		for len(b.p.mails) < 200-free {
			b.must(api.OK, double(3))
		}
		b.must(api.OK, tick(15))
		if len(b.w.Mails()) != 200 {
			t.Error(len(b.w.Mails()))
		}
		// What was not sent is due again like the rest.
		b.must(api.OK, lose(1))
		b.must(api.OK, tick(24))
		b.must(api.OK, tick(25))
	}
}

func TestP2_8Deliver(t *testing.T) {
	b := newBoth(t, 3, 10)
	b.must(api.ErrNone, deliver(1))
	b.must(api.OK, say(0, 1, "a")) // 1
	b.must(api.OK, say(0, 1, "b")) // 2
	b.must(api.OK, say(1, 0, "c")) // 3
	b.must(api.OK, say(0, 2, "d")) // 4
	b.must(api.OK, double(1))      // 5
	b.must(api.OK, deliver(2))     // too early: 6 says that the word 1 is waited for
	b.must(api.OK, tick(3))
	b.must(api.OK, deliver(6)) // says nothing new: due as before
	b.must(api.OK, deliver(5)) // 7
	b.must(api.OK, deliver(1)) // the same word again: 8
	b.must(api.OK, tick(7))
	b.must(api.OK, deliver(7)) // due at 17
	b.must(api.OK, tick(9))
	b.must(api.OK, deliver(8)) // says nothing new: due as before
	if due, is := b.w.Due(0, 1); due != 17 || !is {
		t.Error(due, is)
	}
	b.must(api.OK, tick(17)) // the others are due, too
	for _, n := range []int{0, -1, 1, 8, 1000, math.MinInt, math.MaxInt} {
		b.must(api.ErrNone, deliver(n))
		b.must(api.ErrNone, lose(n))
		b.must(api.ErrNone, double(n))
	}
}

func TestP2_8OldReceipts(t *testing.T) {
	b := newBoth(t, 2, 10)
	for range 3 {
		b.must(api.OK, say(0, 1, "a"))
	}
	for n := range 3 {
		b.must(api.OK, deliver(n+1))
	}
	b.must(api.OK, tick(2))
	b.must(api.OK, deliver(5)) // two are heard
	b.must(api.OK, tick(4))
	b.must(api.OK, deliver(4)) // one is: that is old
	b.must(api.OK, deliver(6)) // all are
	if due, is := b.w.Due(0, 1); due != 0 || is || b.w.Open(0, 1) != 0 {
		t.Error(due, is, b.w.Open(0, 1))
	}
	b.must(api.OK, tick(100))
	b.must(api.OK, say(0, 1, "b"))
	if due, is := b.w.Due(0, 1); due != 110 || !is {
		t.Error(due, is)
	}
}

func TestP2_8LoseAndDouble(t *testing.T) {
	b := newBoth(t, 2, 10)
	b.must(api.OK, say(0, 1, "a"))
	b.must(api.OK, say(0, 1, "b"))
	b.must(api.OK, double(1))
	b.must(api.OK, double(3))
	b.must(api.OK, lose(1))
	b.must(api.OK, lose(4))
	b.must(api.ErrNone, lose(4))
	b.must(api.ErrNone, double(1))
	b.must(api.OK, deliver(3))
	b.must(api.OK, double(5)) // a receipt
	b.must(api.OK, deliver(6))
	b.must(api.OK, say(1, 0, "c"))
	if l := b.w.Mails(); l[len(l)-1].ID != 7 {
		t.Error("the ID of a mail that is gone is used again, or one is left out:", l)
	}
}

func TestP2_8Crash(t *testing.T) {
	b := newBoth(t, 3, 10)
	b.must(api.OK, crash(0))
	b.must(api.OK, say(0, 1, "a"))
	b.must(api.OK, say(0, 1, "b"))
	b.must(api.OK, say(1, 0, "c"))
	b.must(api.OK, deliver(1))
	b.must(api.OK, deliver(3))
	b.must(api.OK, deliver(4))
	b.must(api.OK, tick(4))
	b.must(api.OK, crash(0)) // what 1 knows, and both have heard, stays
	if due, is := b.w.Due(0, 1); due != 4 || !is || b.w.Open(0, 1) != 2 {
		t.Error(due, is, b.w.Open(0, 1))
	}
	b.must(api.OK, crash(1))
	b.must(api.OK, say(0, 1, "d")) // due as before
	b.must(api.OK, say(0, 2, "e")) // due later
	b.must(api.OK, tick(4))
	b.must(api.OK, tick(5))
	for _, a := range []int{-1, 3, math.MinInt, math.MaxInt} {
		b.must(api.ErrArg, crash(a))
	}
}

func TestP2_8FieldsAndKinds(t *testing.T) {
	b := newBoth(t, 3, 10)
	b.must(api.OK, say(0, 1, "a"))
	for _, s := range []api.Step{
		{}, {Kind: 7}, {Kind: -1}, {Kind: math.MinInt}, {Kind: math.MaxInt},
		{Kind: api.StSay, A: 0, B: 1, Text: "x", N: 1}, {Kind: api.StSay, A: 0, B: 1, N: -1},
		{Kind: api.StTick, N: 5, A: 1}, {Kind: api.StTick, N: 5, B: 1}, {Kind: api.StTick, N: 5, Text: "x"},
		{Kind: api.StDeliver, N: 1, A: 1}, {Kind: api.StDeliver, N: 1, B: -1}, {Kind: api.StDeliver, N: 1, Text: "x"},
		{Kind: api.StLose, N: 1, A: 1}, {Kind: api.StLose, N: 1, B: 1}, {Kind: api.StLose, N: 1, Text: " "},
		{Kind: api.StDouble, N: 1, A: -1}, {Kind: api.StDouble, N: 1, B: 1}, {Kind: api.StDouble, N: 1, Text: "x"},
		{Kind: api.StDeliver, N: 9, A: 1}, {Kind: api.StLose, N: 9, B: 1}, {Kind: api.StDouble, N: 9, Text: "x"},
		{Kind: api.StCrash, A: 0, B: 1}, {Kind: api.StCrash, A: 0, N: 1}, {Kind: api.StCrash, A: 0, Text: "x"},
	} {
		b.must(api.ErrArg, s)
	}
	for len(b.p.mails) < 200 {
		b.must(api.OK, double(1))
	}
	b.must(api.ErrArg, api.Step{Kind: api.StDouble, N: 1, A: 1})
	b.must(api.ErrArg, api.Step{Kind: api.StSay, A: 0, B: 1, N: 1})
}

func TestP2_9WithoutStations(t *testing.T) {
	b := newBoth(t, 2, 10)
	b.must(api.OK, say(0, 1, "a"))
	b.must(api.OK, deliver(1))
	for _, x := range [][2]int{{0, 0}, {1, 1}, {-1, 0}, {0, -1}, {2, 0}, {0, 2}, {-1, -1}, {2, 2}, {math.MinInt, 0}, {1, math.MaxInt}} {
		due, is := b.w.Due(x[0], x[1])
		if len(b.w.Said(x[0], x[1])) != 0 || len(b.w.Heard(x[0], x[1])) != 0 || b.w.Open(x[0], x[1]) != 0 || due != 0 || is {
			t.Error(x)
		}
	}
	if !slices.Equal(b.w.Said(0, 1), []string{"a"}) || !slices.Equal(b.w.Heard(1, 0), []string{"a"}) || len(b.w.Said(1, 0)) != 0 || len(b.w.Heard(0, 1)) != 0 {
		t.Error(b.w.Said(0, 1), b.w.Heard(1, 0), b.w.Said(1, 0), b.w.Heard(0, 1))
	}
}

// A step that cannot be done changes nothing: not even the next ID, which only the next mail tells.
func TestP2_8And9RandomSteps(t *testing.T) {
	r := random(20)
	for range 150 {
		b := newBoth(t, 1+r.IntN(4), 1+r.IntN(12))
		for range 120 {
			b.do(randomStep(r, b.p))
		}
	}
}

func TestP2_8And9ManyMails(t *testing.T) {
	r := random(21)
	for range 5 {
		b := newBoth(t, 10, 1+r.IntN(3))
		full := 0
		for range 400 {
			s := randomStep(r, b.p)
			if s.Kind == api.StLose {
				s.Kind = api.StDouble
			}
			b.do(s)
			if len(b.p.mails) == 200 {
				full++
			}
		}
		if full < 50 {
			t.Error("seldom without room:", full)
		}
	}
}
