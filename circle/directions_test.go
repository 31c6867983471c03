package circle_test

import (
	"math"
	"testing"

	"firetower/api"
	"firetower/circle"
)

func TestP5_1Vector(t *testing.T) {
	for d := -8000; d <= 8000; d++ {
		v := circle.Vector(d)
		if v != plainVector(rest(d)) {
			t.Fatal(d, v)
		}
		for _, b := range bearings(v.X, v.Y) {
			if !b.equals(ratio{rest(d), 1}) {
				t.Fatal(d, v, b)
			}
		}
	}
	for _, d := range []int{math.MaxInt, math.MaxInt - 1, math.MaxInt - 450, math.MinInt, math.MinInt + 1, math.MinInt + 450, 1 << 62, -1 << 62, 3600*1e15 + 451, -3600*1e15 - 451} {
		if v := circle.Vector(d); v != plainVector(rest(d)) {
			t.Error(d, v)
		}
	}
}

func TestP5_1Division(t *testing.T) {
	diagonals := 0
	for _, from := range []api.Place{at(0, 0), at(48, 0), at(0, 48), at(48, 48), at(24, 24), at(13, 40), at(0, 17)} {
		for _, to := range allPlaces() {
			if from == to {
				continue
			}
			l := bearings(to.X-from.X, to.Y-from.Y)
			if len(l) == 2 {
				diagonals++
			}
			d, ok := circle.Division(from, to)
			for _, b := range l {
				if !ok || d != b.down() {
					t.Fatal(from, to, d, ok, b)
				}
			}
		}
	}
	counted(t, "directions to corners of the square", diagonals, 300)
}

func TestP5_1NoDivision(t *testing.T) {
	for _, p := range append(wrongPlaces(), at(10, 10)) {
		for _, x := range [][2]api.Place{{p, at(10, 10)}, {at(10, 10), p}, {p, p}} {
			if d, ok := circle.Division(x[0], x[1]); d != 0 || ok {
				t.Error(x, d, ok)
			}
		}
	}
	for _, p := range allPlaces() {
		if d, ok := circle.Division(p, p); d != 0 || ok {
			t.Error(p, d, ok)
		}
	}
}

func TestP5_2Opening(t *testing.T) {
	for from := range 3600 {
		for _, n := range []int{0, 1, 5, 449, 450, 899, 900, 901, 1800, 2700, 3598, 3599} {
			if got := circle.Opening(wedge(from, (from+n)%3600)); got != n {
				t.Fatal(from, n, got)
			}
		}
	}
	for _, w := range wrongWedges() {
		want := -1
		if isDivision(w.From) && isDivision(w.To) {
			want = rest(w.To - w.From)
		}
		if got := circle.Opening(w); got != want {
			t.Error(w, got)
		}
	}
}

// Wedges that begin or end at the bearing, or just beside it, are the ones that can go wrong.
func TestP5_2LiesAtTheEdge(t *testing.T) {
	lies, not, exact := 0, 0, 0
	for _, from := range []api.Place{at(24, 24), at(0, 0), at(48, 0), at(48, 48), at(0, 48)} {
		for _, p := range allPlaces() {
			if p == from {
				continue
			}
			b := plainBearing(from, p)
			if b.num%b.den == 0 {
				exact++
			}
			for _, back := range []int{-2, -1, 0, 1, 2, 450, 899, 900} {
				for _, ahead := range []int{-2, -1, 0, 1, 2, 450, 899, 900, 901} {
					w := wedge(rest(b.down()-back), rest(b.down()+ahead))
					got := circle.Lies(w, from, p)
					if got != plainLies(w, from, p) {
						t.Fatal(w, from, p, b, got)
					}
					if got {
						lies++
					} else {
						not++
					}
				}
			}
		}
	}
	counted(t, "places in wedges", lies, 100000)
	counted(t, "places not in wedges", not, 100000)
	counted(t, "bearings that are divisions", exact, 500)
}

func TestP5_2LiesAnywhere(t *testing.T) {
	r := random(1)
	lies := 0
	for range 100000 {
		w, from := randomWedge(r), randomPlace(r)
		p := otherPlace(r, from)
		got := circle.Lies(w, from, p)
		if got != plainLies(w, from, p) {
			t.Fatal(w, from, p, got)
		}
		if got {
			lies++
		}
	}
	counted(t, "places in wedges", lies, 5000)
}

func TestP5_2LiesNot(t *testing.T) {
	for _, w := range wrongWedges() {
		for _, p := range allPlaces() {
			if circle.Lies(w, at(24, 24), p) {
				t.Fatal(w, p)
			}
		}
	}
	for _, p := range append(wrongPlaces(), at(24, 24)) {
		for d := 0; d < 3600; d += 900 {
			if w := wedge(d, (d+900)%3600); circle.Lies(w, at(24, 24), p) || circle.Lies(w, p, at(24, 24)) || circle.Lies(w, p, p) {
				t.Error(w, p)
			}
		}
	}
}

// bearingsOf returns for each half of a division whether a wedge has it.
func bearingsOf(w api.Wedge) [7200]bool {
	var out [7200]bool
	for i := range out {
		out[i] = has(w, ratio{i, 2})
	}
	return out
}

// common returns for each half of a division whether both have it, and how many these are.
func common(a, b [7200]bool) ([7200]bool, int) {
	var out [7200]bool
	n := 0
	for i := range out {
		if a[i] && b[i] {
			out[i], n = true, n+1
		}
	}
	return out, n
}

func TestP5_2Meet(t *testing.T) {
	r := random(2)
	some, none, one := 0, 0, 0
	for range 2000 {
		a, b := randomWedge(r), randomWedge(r)
		switch r.IntN(5) {
		case 0:
			b = wedge(a.To, rest(a.To+r.IntN(901)))
		case 1:
			b = wedge(a.From, rest(a.From+r.IntN(901)))
		case 2:
			b = wedge(rest(a.To+r.IntN(5)-2), rest(a.To+2+r.IntN(800)))
		}
		want, n := common(bearingsOf(a), bearingsOf(b))
		for _, x := range [][2]api.Wedge{{a, b}, {b, a}} {
			m, ok := circle.Meet(x[0], x[1])
			if ok != (n > 0) || ok && (!isWedge(m) || bearingsOf(m) != want) || !ok && m != (api.Wedge{}) {
				t.Fatal(x, m, ok)
			}
		}
		switch n {
		case 0:
			none++
		case 1:
			one++
		default:
			some++
		}
	}
	counted(t, "wedges that meet", some, 500)
	counted(t, "wedges that do not meet", none, 300)
	counted(t, "wedges that meet in one bearing", one, 200)
}

func TestP5_2MeetOfItself(t *testing.T) {
	r := random(3)
	for range 1000 {
		w := randomWedge(r)
		if m, ok := circle.Meet(w, w); !ok || m != w {
			t.Fatal(w, m, ok)
		}
	}
}

func TestP5_2MeetOfWrongWedges(t *testing.T) {
	r := random(4)
	for _, w := range wrongWedges() {
		for _, v := range append(wrongWedges(), wedge(0, 900), wedge(5, 5), wedge(2700, 0), randomWedge(r)) {
			if m, ok := circle.Meet(w, v); ok || m != (api.Wedge{}) {
				t.Error(w, v, m)
			}
			if m, ok := circle.Meet(v, w); ok || m != (api.Wedge{}) {
				t.Error(v, w, m)
			}
		}
	}
}

func TestP5_2Widen(t *testing.T) {
	r := random(5)
	for range 300 {
		w := randomWedge(r)
		n := rest(w.To - w.From)
		for by := range 460 {
			want, is := wedge(rest(w.From-by), rest(w.To+by)), n+2*by <= 900
			if !is {
				want = api.Wedge{}
			}
			if got, ok := circle.Widen(w, by); got != want || ok != is {
				t.Fatal(w, by, got, ok)
			}
		}
		// By whole or half turns a wedge would become itself or the opposite one, which does not have all that it has.
		for _, by := range []int{-1, -2, -450, -1800, -3600, 451, 900, 1800, 1801, 3600, 7200, 1 << 62, 1<<62 + 1800, math.MaxInt, math.MinInt, math.MinInt + 1, -1 << 62} {
			if got, ok := circle.Widen(w, by); ok || got != (api.Wedge{}) {
				t.Fatal(w, by, got)
			}
		}
	}
	for _, w := range wrongWedges() {
		for _, by := range []int{0, 1, 100, -1, -100, 1800, math.MaxInt, math.MinInt} {
			if got, ok := circle.Widen(w, by); ok || got != (api.Wedge{}) {
				t.Error(w, by, got)
			}
		}
	}
}

func TestP5_3Halves(t *testing.T) {
	r := random(6)
	for range 20000 {
		w, from := randomWedge(r), randomPlace(r)
		if w.From == w.To {
			continue
		}
		p, q := plainVector(w.From), plainVector(w.To)
		want := [2]api.Half{{A: p.Y, B: -p.X, C: p.Y*from.X - p.X*from.Y}, {A: -q.Y, B: q.X, C: q.X*from.Y - q.Y*from.X}}
		if got, ok := circle.Halves(w, from); !ok || got != want {
			t.Fatal(w, from, got, ok)
		}
	}
	if got, ok := circle.Halves(wedge(892, 898), at(10, 10)); !ok || got != [2]api.Half{{A: 450, B: -8, C: 4420}, {A: -450, B: 2, C: -4480}} {
		t.Error(got, ok)
	}
}

func TestP5_3NoHalves(t *testing.T) {
	for _, w := range append(wrongWedges(), wedge(0, 0), wedge(5, 5), wedge(3599, 3599)) {
		for _, p := range append(wrongPlaces(), at(10, 10)) {
			if got, ok := circle.Halves(w, p); ok || got != [2]api.Half{} {
				t.Error(w, p, got)
			}
		}
	}
	for _, p := range wrongPlaces() {
		if got, ok := circle.Halves(wedge(892, 898), p); ok || got != [2]api.Half{} {
			t.Error(p, got)
		}
	}
}
