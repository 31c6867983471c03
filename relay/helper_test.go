package relay_test

import (
	"maps"
	"math/rand/v2"
	"slices"
	"testing"

	"firetower/api"
	"firetower/relay"
)

// What follows is written from the chapter alone, in the plainest way, so that the package can be held against it.

// horizon is behind all minutes of the nets that random returns.
const horizon = 64

// random returns a generator of numbers that are the same in each run.
func random(seed uint64) *rand.Rand { return rand.New(rand.NewPCG(seed, 2)) }

// example returns the net of the chapter's examples.
func example() api.Net {
	return api.Net{Stations: 3, Links: []api.Link{
		{From: 0, To: 1, Delay: 5, Open: []api.Span{{Lo: 0, Hi: 20}, {Lo: 100, Hi: 200}}},
		{From: 1, To: 2, Delay: 10, Open: []api.Span{{Lo: 12, Hi: 40}}},
		{From: 0, To: 2, Delay: 50, Open: []api.Span{{Lo: 0, Hi: 60}}},
	}}
}

// randomSpans returns spans as a right link has them, some of which are neighbours.
func randomSpans(r *rand.Rand) []api.Span {
	var out []api.Span
	for lo := r.IntN(8); lo < horizon-1 && r.IntN(6) > 0; {
		hi := min(lo+r.IntN(16), horizon-1)
		out = append(out, api.Span{Lo: lo, Hi: hi})
		lo = hi + 1 + r.IntN(3)*r.IntN(8)
	}
	return out[:min(len(out), api.MaxOpen)]
}

func randomLink(r *rand.Rand, stations int) api.Link {
	a := r.IntN(stations)
	b := (a + 1 + r.IntN(stations-1)) % stations
	return api.Link{From: a, To: b, Delay: 1 + r.IntN(6), Open: randomSpans(r)}
}

func randomNet(r *rand.Rand) api.Net {
	n := api.Net{Stations: 1 + r.IntN(5)}
	for range r.IntN(10) {
		if n.Stations > 1 {
			n.Links = append(n.Links, randomLink(r, n.Stations))
		}
	}
	return n
}

// shifted returns a net all of whose minutes are later.
func shifted(n api.Net, by int) api.Net {
	out := copyOf(n)
	for _, l := range out.Links {
		for j := range l.Open {
			l.Open[j].Lo += by
			l.Open[j].Hi += by
		}
	}
	return out
}

func copyOf(n api.Net) api.Net {
	out := api.Net{Stations: n.Stations, Links: slices.Clone(n.Links)}
	for i := range out.Links {
		out.Links[i].Open = slices.Clone(out.Links[i].Open)
	}
	return out
}

// closedLink returns a net one of whose links is never open.
func closedLink(n api.Net, i int) api.Net {
	out := copyOf(n)
	out.Links[i].Open = nil
	return out
}

// canLeave says whether a link can be left at a minute.
func canLeave(l api.Link, d int) bool {
	for _, s := range l.Open {
		if s.Lo <= d && d+l.Delay <= s.Hi {
			return true
		}
	}
	return false
}

// reached returns for each station the first minute before the horizon at which a word can be there; -1 for never. It goes minute by minute.
func reached(n api.Net, from, tick int) []int {
	out := slices.Repeat([]int{-1}, n.Stations)
	there := map[[2]int]bool{{from, tick}: true}
	for m := tick; m < horizon; m++ {
		for s := range n.Stations {
			if !there[[2]int{s, m}] {
				continue
			}
			if out[s] < 0 {
				out[s] = m
			}
			there[[2]int{s, m + 1}] = true
			for _, l := range n.Links {
				if l.From == s && canLeave(l, m) {
					there[[2]int{l.To, m + l.Delay}] = true
				}
			}
		}
	}
	return out
}

// inTime says whether a minute is one (not -1), and at most another one.
func inTime(a, b int) bool { return a >= 0 && a <= b }

// notEarlier says whether of two minutes of a station (-1: never) the first one is not earlier.
func notEarlier(a, b int) bool { return a < 0 || inTime(b, a) }

// plainLatest returns for each station the last minute at which a word must be there to be at a station in time.
func plainLatest(n api.Net, to, tick int) []int {
	out := slices.Repeat([]int{-1}, n.Stations)
	for s := range n.Stations {
		for m := range tick + 1 {
			if inTime(reached(n, s, m)[to], tick) {
				out[s] = m
			}
		}
	}
	return out
}

// plainArrival returns what CheckWay has to, for a right net, stations and minutes and not too many hops.
func plainArrival(n api.Net, from, to, tick int, l []api.Hop) (int, api.Errno) {
	for _, h := range l {
		if h.Link < 0 || h.Link >= len(n.Links) || n.Links[h.Link].From != from || h.Tick < tick || !canLeave(n.Links[h.Link], h.Tick) {
			return 0, api.ErrProof
		}
		from = n.Links[h.Link].To
		tick = h.Tick + n.Links[h.Link].Delay
	}
	if from != to {
		return 0, api.ErrProof
	}
	return tick, api.OK
}

// plainBounds says whether CheckBounds has to accept numbers, for a right net, station and minute.
func plainBounds(n api.Net, from, tick int, l []int) bool {
	if len(l) != n.Stations || !inTime(l[from], tick) || slices.Min(l) < -1 || slices.Max(l) > api.MaxTick {
		return false
	}
	for _, k := range n.Links {
		if l[k.From] < 0 {
			continue
		}
		for d := l[k.From]; d < horizon; d++ {
			if canLeave(k, d) {
				if !inTime(l[k.To], d+k.Delay) {
					return false
				}
				break
			}
		}
	}
	return true
}

// pair is who says, and to whom.
type pair [2]int

// plainWorld is a world that writes everything down.
type plainWorld struct {
	stations, wait, tick, last int
	mails                      []api.Mail
	said, heard                map[pair][]string
	known, due                 map[pair]int
}

func newPlain(stations, wait int) *plainWorld {
	return &plainWorld{stations: stations, wait: wait, said: map[pair][]string{}, heard: map[pair][]string{}, known: map[pair]int{}, due: map[pair]int{}}
}

// copy returns a world that goes its own way.
func (p *plainWorld) copy() *plainWorld {
	q := *p
	q.mails = slices.Clone(p.mails)
	q.said, q.heard, q.known, q.due = maps.Clone(p.said), maps.Clone(p.heard), maps.Clone(p.known), maps.Clone(p.due)
	return &q
}

func (p *plainWorld) station(a int) bool { return a >= 0 && a < p.stations }

func (p *plainWorld) open(k pair) int { return len(p.said[k]) - p.known[k] }

func (p *plainWorld) room() bool { return len(p.mails) < 200 }

func (p *plainWorld) put(m api.Mail) {
	if p.room() {
		p.last++
		m.ID = p.last
		p.mails = append(p.mails, m)
	}
}

func (p *plainWorld) at(id int) int {
	return slices.IndexFunc(p.mails, func(m api.Mail) bool { return m.ID == id })
}

func (p *plainWorld) do(s api.Step) api.Errno {
	switch {
	case s.Kind == api.StSay && s.N == 0:
		return p.say(pair{s.A, s.B}, s.Text)
	case s.Kind == api.StCrash && s.B == 0 && s.N == 0 && s.Text == "":
		return p.crash(s.A)
	case s.A != 0 || s.B != 0 || s.Text != "" || s.Kind < api.StTick || s.Kind > api.StDouble:
		return api.ErrArg
	case s.Kind == api.StTick:
		return p.time(s.N)
	}
	i := p.at(s.N)
	if i < 0 {
		return api.ErrNone
	}
	if s.Kind == api.StDouble && !p.room() {
		return api.ErrLimit
	}
	m := p.mails[i]
	if s.Kind == api.StDouble {
		p.put(m)
		return api.OK
	}
	p.mails = slices.Delete(p.mails, i, i+1)
	if s.Kind == api.StDeliver {
		p.deliver(m)
	}
	return api.OK
}

func (p *plainWorld) say(k pair, text string) api.Errno {
	if !p.station(k[0]) || !p.station(k[1]) || k[0] == k[1] || len(text) > 40 {
		return api.ErrArg
	}
	if len(p.said[k]) >= 60 || !p.room() {
		return api.ErrLimit
	}
	if p.open(k) == 0 {
		p.due[k] = p.tick + p.wait
	}
	p.said[k] = append(p.said[k], text)
	p.put(api.Mail{Kind: api.MaWord, From: k[0], To: k[1], Number: len(p.said[k]), Text: text})
	return api.OK
}

func (p *plainWorld) time(n int) api.Errno {
	if n < p.tick || n > 1<<20 {
		return api.ErrArg
	}
	p.tick = n
	for a := range p.stations {
		for b := range p.stations {
			k := pair{a, b}
			if p.open(k) == 0 || p.due[k] > n {
				continue
			}
			for i, text := range p.said[k] {
				if i >= p.known[k] {
					p.put(api.Mail{Kind: api.MaWord, From: a, To: b, Number: i + 1, Text: text})
				}
			}
			p.due[k] = n + p.wait
		}
	}
	return api.OK
}

func (p *plainWorld) deliver(m api.Mail) {
	if m.Kind == api.MaWord {
		k := pair{m.From, m.To}
		if m.Number == len(p.heard[k])+1 {
			p.heard[k] = append(p.heard[k], m.Text)
		}
		p.put(api.Mail{Kind: api.MaReceipt, From: m.To, To: m.From, Number: len(p.heard[k]) + 1})
		return
	}
	k := pair{m.To, m.From}
	if m.Number-1 <= p.known[k] {
		return
	}
	p.known[k] = m.Number - 1
	if p.open(k) > 0 {
		p.due[k] = p.tick + p.wait
	}
}

func (p *plainWorld) crash(a int) api.Errno {
	if !p.station(a) {
		return api.ErrArg
	}
	for b := range p.stations {
		k := pair{a, b}
		p.known[k] = 0
		if len(p.said[k]) > 0 {
			p.due[k] = p.tick
		}
	}
	return api.OK
}

// same holds all that a world tells against a plain one.
func same(t *testing.T, w *relay.World, p *plainWorld, what any) {
	t.Helper()
	if w.Tick() != p.tick {
		t.Fatal(what, "Tick:", w.Tick(), "instead of", p.tick)
	}
	if got := w.Mails(); !slices.Equal(got, p.mails) {
		t.Fatal(what, "Mails:", got, "instead of", p.mails)
	}
	for a := -1; a <= p.stations; a++ {
		for b := -1; b <= p.stations; b++ {
			k := pair{a, b}
			if !slices.Equal(w.Said(a, b), p.said[k]) || !slices.Equal(w.Heard(b, a), p.heard[k]) {
				t.Fatal(what, k, "said:", w.Said(a, b), "heard:", w.Heard(b, a), "instead of", p.said[k], p.heard[k])
			}
			if w.Open(a, b) != p.open(k) {
				t.Fatal(what, k, "Open:", w.Open(a, b), "instead of", p.open(k))
			}
			due, is := w.Due(a, b)
			if is != (p.open(k) > 0) || is && due != p.due[k] || !is && due != 0 {
				t.Fatal(what, k, "Due:", due, is, "instead of", p.due[k], p.open(k) > 0)
			}
		}
	}
}

// both is a world and a plain one in which the same is done.
type both struct {
	t *testing.T
	w *relay.World
	p *plainWorld
}

func newBoth(t *testing.T, stations, wait int) both {
	t.Helper()
	w, e := relay.New(stations, wait)
	if e != api.OK || w == nil {
		t.Fatal("New:", stations, wait, e)
	}
	b := both{t, w, newPlain(stations, wait)}
	same(t, w, b.p, "at the beginning")
	return b
}

// do does a step in both worlds, and holds them against each other.
func (b both) do(s api.Step) api.Errno {
	b.t.Helper()
	want := b.p.do(s)
	if got := b.w.Do(s); got != want {
		b.t.Fatal(s, "Do:", got, "instead of", want)
	}
	same(b.t, b.w, b.p, s)
	return want
}

// must does a step that has an answer.
func (b both) must(want api.Errno, s api.Step) {
	b.t.Helper()
	if got := b.do(s); got != want {
		b.t.Fatal(s, "Do:", got, "instead of", want)
	}
}

func say(a, b int, text string) api.Step {
	return api.Step{Kind: api.StSay, A: a, B: b, Text: text}
}
func tick(n int) api.Step    { return api.Step{Kind: api.StTick, N: n} }
func deliver(n int) api.Step { return api.Step{Kind: api.StDeliver, N: n} }
func lose(n int) api.Step    { return api.Step{Kind: api.StLose, N: n} }
func double(n int) api.Step  { return api.Step{Kind: api.StDouble, N: n} }
func crash(a int) api.Step   { return api.Step{Kind: api.StCrash, A: a} }

// randomStep returns a step, mostly one that can be done in a world.
func randomStep(r *rand.Rand, p *plainWorld) api.Step {
	if len(p.mails) > 0 && r.IntN(10) < 6 {
		n := p.mails[r.IntN(len(p.mails))].ID
		return []api.Step{deliver(n), deliver(n), deliver(n), deliver(n), lose(n), lose(n), double(n)}[r.IntN(7)]
	}
	switch x := r.IntN(20); {
	case x < 9:
		return say(r.IntN(p.stations), r.IntN(p.stations), string(rune('a'+r.IntN(26))))
	case x < 17:
		return tick(p.tick + r.IntN(2*p.wait))
	case x < 18:
		return crash(r.IntN(p.stations))
	}
	return api.Step{Kind: r.IntN(9) - 1, A: r.IntN(p.stations+2) - 1, B: r.IntN(2), N: r.IntN(p.last+3) - 1, Text: "ab"[r.IntN(3):]}
}
