package difficulty

import (
	"salchow/api"
	"salchow/segment"
)

// Announced returns the sum of announced penalties.
func Announced(s api.Segment, list []api.Announced) (int64, api.Errno) {
	if repeated(list) {
		return 0, api.ErrTwice
	}
	var sum int64
	inRange := true
	for _, x := range list {
		penalty, e := segment.Penalty(s, x.Name)
		if e != api.OK {
			return 0, e
		}
		inRange = inRange && x.Count >= 0 && x.Count <= penalty.Most
		sum += int64(x.Count) * penalty.Value
	}
	if !inRange {
		return 0, api.ErrRange
	}
	return sum, api.OK
}

// repeated reports whether a name occurs twice.
func repeated(list []api.Announced) bool {
	names := map[string]bool{}
	for _, x := range list {
		if names[x.Name] {
			return true
		}
		names[x.Name] = true
	}
	return false
}
