package season

import (
	"slices"

	"firetower/api"
	"firetower/cell"
	"firetower/crew"
)

// CheckSetting returns the first error of a setting.
func CheckSetting(s api.Setting) api.Errno {
	if e := cell.Check(s.Service); e != api.OK {
		return e
	}
	if len(s.Service.Circles.Checks) > 0 {
		return api.ErrArg
	}
	if len(s.Service.Country.Towers) > api.MaxPosts {
		return api.ErrLimit
	}
	if !within(s.Rise, 0, api.MaxTall) || !within(s.Long, 0, api.MaxLong) || !within(s.Wait, 1, api.MaxWait) {
		return api.ErrArg
	}
	_, e := crew.New(s.Trails, s.Crews)
	return e
}

// stationOf returns the station of the tower with an ID; -1 if there is none.
func stationOf(s api.Setting, tower int) int {
	return slices.IndexFunc(s.Service.Country.Towers, func(t api.Tower) bool { return t.ID == tower })
}

// copied returns a setting that shares no memory with another one.
func copied(s api.Setting) api.Setting {
	s.Service = copiedService(s.Service)
	s.Trails = slices.Clone(s.Trails)
	for i, t := range s.Trails {
		s.Trails[i].Closed = slices.Clone(t.Closed)
	}
	s.Crews = slices.Clone(s.Crews)
	return s
}

// copiedService returns a service that shares no memory with another one.
func copiedService(s api.Service) api.Service {
	country, circles := &s.Country, &s.Circles
	country.Map.Ground = slices.Clone(country.Map.Ground)
	country.Towers = slices.Clone(country.Towers)
	country.Haze = slices.Clone(country.Haze)
	circles.Circles = slices.Clone(circles.Circles)
	circles.Checks = slices.Clone(circles.Checks)
	return s
}
