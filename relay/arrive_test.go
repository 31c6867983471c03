package relay_test

import (
	"math/rand/v2"
	"slices"
	"testing"

	"firetower/api"
	"firetower/relay"
)

// randomWorld returns a world in which some steps were done, and how many words were said.
func randomWorld(t *testing.T, r *rand.Rand, stations, steps, most int) (both, int) {
	t.Helper()
	b := newBoth(t, stations, 1+r.IntN(20))
	words := 0
	for range steps {
		s := randomStep(r, b.p)
		if s.Kind == api.StSay && words == most {
			continue
		}
		if b.do(s) == api.OK && s.Kind == api.StSay {
			words++
		}
	}
	return b, words
}

func TestP2_13OnceAndInOrder(t *testing.T) {
	r := random(22)
	for range 100 {
		w, e := relay.New(3, 1+r.IntN(9))
		p := newPlain(3, 1)
		if e != api.OK {
			t.Fatal("New:", e)
		}
		for i := range 150 {
			s := randomStep(r, p)
			if s.Kind == api.StSay {
				s.Text = string(rune('A' + i)) // no word comes twice
			}
			w.Do(s)
			p.tick, p.mails = w.Tick(), w.Mails()
			for a := range 3 {
				for b := range 3 {
					said, heard := w.Said(a, b), w.Heard(b, a)
					if len(heard) > len(said) || !slices.Equal(heard, said[:len(heard)]) {
						t.Fatal("not the beginning:", said, heard)
					}
					if len(said)-w.Open(a, b) > len(heard) {
						t.Fatal("known, but not heard:", said, heard, w.Open(a, b))
					}
				}
			}
		}
	}
}

// deliverAll delivers all mails in any order, and those that they bring.
func deliverAll(t *testing.T, r *rand.Rand, w *relay.World) {
	t.Helper()
	for l := w.Mails(); len(l) > 0; l = w.Mails() {
		if e := w.Do(deliver(l[r.IntN(len(l))].ID)); e != api.OK {
			t.Fatal("deliver:", e)
		}
	}
}

// lastDue returns the last minute at which open words are due, or the time.
func lastDue(w *relay.World, stations int) int {
	last := w.Tick()
	for a := range stations {
		for b := range stations {
			due, _ := w.Due(a, b)
			last = max(last, due)
		}
	}
	return last
}

func TestP2_14InTheEnd(t *testing.T) {
	r := random(23)
	lost := 0
	for range 300 {
		b, words := randomWorld(t, r, 3, 80, 12)
		w := b.w
		for a := range 3 {
			for c := range 3 {
				lost += w.Open(a, c)
			}
		}
		for range words {
			if e := w.Do(tick(lastDue(w, 3))); e != api.OK {
				t.Fatal("tick:", e)
			}
			deliverAll(t, r, w)
		}
		for a := range 3 {
			for c := range 3 {
				if !slices.Equal(w.Said(a, c), w.Heard(c, a)) || w.Open(a, c) != 0 {
					t.Fatal("not all is heard and known:", w.Said(a, c), w.Heard(c, a), w.Open(a, c))
				}
			}
		}
		if words > 0 && len(w.Mails()) != 0 {
			t.Fatal("mails:", w.Mails())
		}
	}
	if lost < 300 {
		t.Error("too few words were open:", lost)
	}
}

// between returns the mails between two stations, without their IDs, and their IDs.
func between(w *relay.World, a, b int) ([]api.Mail, []int) {
	var l []api.Mail
	var ids []int
	for _, m := range w.Mails() {
		if m.From == a && m.To == b || m.From == b && m.To == a {
			ids = append(ids, m.ID)
			m.ID = 0
			l = append(l, m)
		}
	}
	return l, ids
}

// sameBetween says whether two worlds tell the same of two stations.
func sameBetween(v, w *relay.World, a, b int) bool {
	d, is := v.Due(a, b)
	f, too := w.Due(a, b)
	return slices.Equal(v.Said(a, b), w.Said(a, b)) && slices.Equal(v.Heard(b, a), w.Heard(b, a)) && v.Open(a, b) == w.Open(a, b) && d == f && is == too
}

func TestP2_15Alone(t *testing.T) {
	r := random(24)
	for range 100 {
		wait := 1 + r.IntN(20)
		alone, e := relay.New(4, wait)
		if e != api.OK {
			t.Fatal("New:", e)
		}
		many := newBoth(t, 4, wait)
		a, b := 1, 2
		for range 100 {
			s := randomStep(r, many.p)
			if s.Kind == api.StTick && s.N > many.p.tick+3*wait {
				continue
			}
			_, theirs := between(many.w, a, b)
			_, mine := between(alone, a, b)
			if len(many.p.mails) > 150 {
				break
			}
			e := many.do(s)
			switch i := slices.Index(theirs, s.N); {
			case s.Kind == api.StTick, s.Kind == api.StCrash, s.Kind == api.StSay && s.A == a && s.B == b, s.Kind == api.StSay && s.A == b && s.B == a:
			case s.Kind >= api.StDeliver && s.Kind <= api.StDouble && i >= 0:
				s.N = mine[i]
			default:
				continue
			}
			if f := alone.Do(s); f != e {
				t.Fatal(s, f, "instead of", e)
			}
			l, _ := between(many.w, a, b)
			k, _ := between(alone, a, b)
			if !slices.Equal(l, k) || !sameBetween(alone, many.w, a, b) || !sameBetween(alone, many.w, b, a) {
				t.Fatal("what others say matters:", s, l, k)
			}
		}
	}
}
