package difficulty

import (
	"math"
	"slices"
	"testing"

	"salchow/api"
)

func TestAnnounced(t *testing.T) {
	s := example(t, "").s
	many := slices.Repeat([]api.Announced{{Name: "line", Count: 1}}, 100000)
	for i, y := range []struct {
		list []api.Announced
		sum  int64
		e    api.Errno
	}{
		{nil, 0, api.OK},
		{[]api.Announced{{Name: "line", Count: 3}}, 300, api.OK},
		{[]api.Announced{{Name: "line", Count: 5}}, 500, api.OK},
		{[]api.Announced{{Name: "line"}}, 0, api.OK},
		{[]api.Announced{{Name: "line", Count: 5}, {Name: "fall", Count: 30}}, 30500, api.OK},
		{[]api.Announced{{Name: "time", Count: 1}, {Name: "line", Count: 2}, {Name: "fall", Count: 1}}, 1200, api.OK},
		{[]api.Announced{{Name: "line", Count: 6}}, 0, api.ErrRange},
		{[]api.Announced{{Name: "line", Count: -1}}, 0, api.ErrRange},
		{[]api.Announced{{Name: "fall", Count: 3}, {Name: "line", Count: math.MinInt}}, 0, api.ErrRange},
		{[]api.Announced{{Name: "line", Count: math.MaxInt}, {Name: "fall", Count: 3}}, 0, api.ErrRange},
		{[]api.Announced{{Name: "time", Count: 2}}, 0, api.ErrRange},
		{[]api.Announced{{Name: "lin"}}, 0, api.ErrName},
		{[]api.Announced{{Name: ""}}, 0, api.ErrName},
		{[]api.Announced{{Name: "fall", Count: 1}, {Name: "Line", Count: 1}}, 0, api.ErrName},
		{[]api.Announced{{Name: "line", Count: 6}, {Name: "x", Count: 1}}, 0, api.ErrName},
		{[]api.Announced{{Name: "x", Count: 1}, {Name: "line", Count: 6}}, 0, api.ErrName},
		{[]api.Announced{{Name: "line", Count: 1}, {Name: "line", Count: 1}}, 0, api.ErrTwice},
		{[]api.Announced{{Name: "line"}, {Name: "line"}}, 0, api.ErrTwice},
		{[]api.Announced{{Name: "line", Count: 6}, {Name: "x"}, {Name: "line"}}, 0, api.ErrTwice},
		{[]api.Announced{{Name: "x"}, {Name: "line", Count: 6}, {Name: "x"}}, 0, api.ErrTwice},
		{many, 0, api.ErrTwice},
	} {
		before := slices.Clone(y.list)
		if sum, e := Announced(s, y.list); sum != y.sum || e != y.e || !slices.Equal(y.list, before) {
			t.Errorf("%d: Announced: %d, %d; want %d, %d", i, sum, e, y.sum, y.e)
		}
	}
	if _, e := Announced(api.Segment{}, []api.Announced{{Name: "line"}}); e != api.ErrName {
		t.Errorf("Announced without penalties: %d", e)
	}
}

func TestMostAnnounced(t *testing.T) {
	var s api.Segment
	var list []api.Announced
	for i := range api.MaxPenalties {
		name := "p" + string(rune('a'+i))
		s.Penalties = append(s.Penalties, api.Penalty{Name: name, Value: api.MaxMilli, Most: 30})
		list = append(list, api.Announced{Name: name, Count: 30})
	}
	if sum, e := Announced(s, list); sum != 12*30*api.MaxMilli || e != api.OK {
		t.Errorf("Announced: %d, %d", sum, e)
	}
}
