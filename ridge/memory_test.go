package ridge_test

import (
	"slices"
	"testing"

	"firetower/api"
	"firetower/ridge"
)

// longer returns a list with more behind its end, and a function that says whether what lies there is still as it was.
func longer[T comparable](l []T, behind T) ([]T, func() bool) {
	long := append(slices.Clone(l), behind, behind, behind, behind, behind)
	kept := slices.Clone(long)
	return long[:len(l)], func() bool { return slices.Equal(long, kept) }
}

func TestArgumentsAreNotChanged(t *testing.T) {
	c := country()
	m, sameGround := longer(c.Map.Ground, 77)
	towers, sameTowers := longer(c.Towers, api.Tower{ID: 77})
	haze, sameHaze := longer(c.Haze, api.Haze{From: 77, To: 77, Far: 77})
	c.Map.Ground, c.Towers, c.Haze = m, towers, haze
	ofMap(t, c.Map, at(0, 0), at(4, 2), 20, 19)
	ofCountry(t, c, asked{id: 1, p: at(2, 1), height: 3, rise: 0, tick: 15, towers: 2})
	for i, same := range []func() bool{sameGround, sameTowers, sameHaze} {
		if !same() {
			t.Error("changed:", i)
		}
	}
}

// again calls a function a second time when its first result is overwritten, also behind its end.
func again[T comparable](t *testing.T, name string, get func() []T, other T) {
	t.Helper()
	first := get()
	want := slices.Clone(first)
	for i := range first[:cap(first)] {
		first[:cap(first)][i] = other
	}
	if got := get(); len(got) == 0 || !slices.Equal(got, want) {
		t.Error(name, got, "instead of", want)
	}
}

func TestResultsAreNewMemory(t *testing.T) {
	c := country()
	again(t, "Raise:", func() []int { out, _ := ridge.Raise(c.Map, at(2, 1), 20); return out.Ground }, -1)
	again(t, "Line:", func() []api.Profile { out, _ := ridge.Line(c.Map, at(0, 0), at(4, 2)); return out }, api.Profile{})
	again(t, "Seen:", func() []api.Place { out, _ := ridge.Seen(c, 1, 0); return out }, at(9, 9))
	again(t, "Dead:", func() []api.Place { out, _ := ridge.Dead(c, 1, 0); return out }, at(9, 9))
	again(t, "Watchers:", func() []int { out, _ := ridge.Watchers(c, at(2, 0), 0, 15); return out }, -1)
	again(t, "Covered:", func() []api.Place { out, _ := ridge.Covered(c, 0, 15, 1); return out }, at(9, 9))
	again(t, "Links:", func() [][2]int { out, _ := ridge.Links(c); return out }, [2]int{-1, -1})
	again(t, "Spare:", func() []int { out, _ := ridge.Spare(c, 0, 25); return out }, -1)
	again(t, "Fewest:", func() []int { out, _ := ridge.Fewest(c, 0, 15); return out }, -1)
	if d := country(); !slices.Equal(c.Map.Ground, d.Map.Ground) || !slices.Equal(c.Towers, d.Towers) || !slices.Equal(c.Haze, d.Haze) {
		t.Error("results share memory with arguments:", c)
	}
}

// The order in which towers stand in a country is of no account: only their IDs are told.
func TestOrderOfTowersIsOfNoAccount(t *testing.T) {
	r := random(30)
	for range 150 {
		c := randomCountry(r, 7, 7)
		d := c
		d.Towers = slices.Clone(c.Towers)
		r.Shuffle(len(d.Towers), func(i, j int) { d.Towers[i], d.Towers[j] = d.Towers[j], d.Towers[i] })
		p, rise, tick := randomPlace(r, c.Map), randomTall(r), randomTick(r)
		for name, get := range map[string]func(c api.Country) ([]int, api.Errno){
			"Watchers": func(c api.Country) ([]int, api.Errno) { return ridge.Watchers(c, p, rise, tick) },
			"Spare":    func(c api.Country) ([]int, api.Errno) { return ridge.Spare(c, rise, tick) },
			"Fewest":   func(c api.Country) ([]int, api.Errno) { return ridge.Fewest(c, rise, tick) },
		} {
			a, e := get(c)
			b, f := get(d)
			if e != api.OK || f != api.OK || !slices.Equal(a, b) {
				t.Fatal(name, c, d, a, b)
			}
		}
		a, _ := ridge.Links(c)
		if b, _ := ridge.Links(d); !slices.Equal(a, b) {
			t.Fatal("Links:", c, d, a, b)
		}
	}
}
