package beam

import (
	"strings"

	"firetower/api"
)

// Time returns how long flashes take.
func Time(s string) (int, api.Errno) {
	if e := checkFlashes(s, api.MaxStream); e != api.OK {
		return 0, e
	}
	total := 0
	for i := range len(s) {
		switch s[i] {
		case api.Short:
			total++
		case api.Long:
			total += 3
		case api.Pause:
			total += 4
		}
	}
	return total, api.OK
}

// Split cuts a stream of flashes behind the end of each signal, and returns the rest.
func Split(stream string) ([]string, string, api.Errno) {
	if e := checkFlashes(stream, api.MaxStream); e != api.OK {
		return nil, "", e
	}
	const end = pause + pause
	var pieces []string
	rest := stream
	for {
		at := strings.Index(rest, end)
		if at < 0 {
			return pieces, rest, api.OK
		}
		at += len(end)
		pieces = append(pieces, rest[:at])
		rest = rest[at:]
	}
}
