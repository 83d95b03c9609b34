package season

import (
	"reflect"
	"slices"
	"testing"

	"salchow/api"
)

// versions returns versions of the sample from these days on.
func versions(t *testing.T, days ...int) []api.Version {
	t.Helper()
	var list []api.Version
	for i, day := range days {
		r := loaded(t, sample)
		r.Season = 1 + i
		list = append(list, api.Version{Day: day, Rules: r})
	}
	return list
}

// daysUpTo returns so many days, from 1 on.
func daysUpTo(n int) []int {
	var days []int
	for day := range n {
		days = append(days, 1+day)
	}
	return days
}

func TestCalendar(t *testing.T) {
	for name, c := range map[string]struct {
		days   []int
		change func(list []api.Version)
		want   api.Errno
	}{
		"no versions":             {nil, nil, api.OK},
		"one version":             {[]int{-5}, nil, api.OK},
		"any days":                {[]int{-1 << 63, -1, 0, 1, 1<<63 - 1}, nil, api.OK},
		"the limit":               {daysUpTo(40), nil, api.OK},
		"one more":                {daysUpTo(41), nil, api.ErrLimit},
		"too many, all wrong":     {slices.Repeat([]int{1}, 41), func(list []api.Version) { list[0].Rules, list[1].Rules.Name = api.Ruleset{}, "other" }, api.ErrLimit},
		"the same rules":          {[]int{1, 2}, func(list []api.Version) { list[1].Rules = list[0].Rules }, api.OK},
		"falling seasons":         {[]int{1, 2}, func(list []api.Version) { list[0].Rules.Season = 9999 }, api.OK},
		"no rules":                {[]int{1}, func(list []api.Version) { list[0].Rules = api.Ruleset{} }, api.ErrArgument},
		"the last has no rules":   {[]int{1, 2, 3}, func(list []api.Version) { list[2].Rules.Digits = 4 }, api.ErrArgument},
		"rules before names":      {[]int{1, 2, 3}, func(list []api.Version) { list[1].Rules.Name, list[2].Rules.Season = "other", 0 }, api.ErrArgument},
		"rules before days":       {[]int{2, 1}, func(list []api.Version) { list[1].Rules.Segments = nil }, api.ErrArgument},
		"another name":            {[]int{1, 2}, func(list []api.Version) { list[0].Rules.Name = "other" }, api.ErrName},
		"another name at the end": {[]int{1, 2, 3}, func(list []api.Version) { list[2].Rules.Name = "other" }, api.ErrName},
		"another name between":    {[]int{1, 2, 3}, func(list []api.Version) { list[1].Rules.Name = "figur" }, api.ErrName},
		"names before days":       {[]int{2, 1, 3}, func(list []api.Version) { list[2].Rules.Name = "other" }, api.ErrName},
		"other names that agree":  {[]int{1, 2}, func(list []api.Version) { list[0].Rules.Name, list[1].Rules.Name = "other", "other" }, api.OK},
		"falling days":            {[]int{2, 1}, nil, api.ErrOrder},
		"equal days":              {[]int{1, 1}, nil, api.ErrOrder},
		"equal days at the end":   {[]int{1, 2, 2}, nil, api.ErrOrder},
		"a day far back":          {[]int{1, 2, -1 << 63}, nil, api.ErrOrder},
		"a long rule":             {[]int{1, 2}, func(list []api.Version) { list[1].Rules = long(t) }, api.OK},
	} {
		list := versions(t, c.days...)
		if c.change != nil {
			c.change(list)
		}
		before := slices.Clone(list)
		for i := range before {
			before[i].Rules = copiedRuleset(list[i].Rules)
		}
		if e := Calendar(list); e != c.want || !reflect.DeepEqual(list, before) {
			t.Errorf("Calendar of %s: %d; want %d", name, e, c.want)
		}
	}
}

func TestInForce(t *testing.T) {
	for _, c := range []struct {
		days []int
		day  int
		want int
		e    api.Errno
	}{
		{nil, 0, 0, api.ErrNone}, {nil, 1<<63 - 1, 0, api.ErrNone},
		{[]int{100, 200}, 99, 0, api.ErrNone}, {[]int{100, 200}, 100, 0, api.OK}, {[]int{100, 200}, 199, 0, api.OK}, {[]int{100, 200}, 200, 1, api.OK}, {[]int{100, 200}, 201, 1, api.OK}, {[]int{100, 200}, 1<<63 - 1, 1, api.OK}, {[]int{100, 200}, -1 << 63, 0, api.ErrNone},
		{[]int{-1 << 63}, -1 << 63, 0, api.OK}, {[]int{1<<63 - 1}, 1<<63 - 1, 0, api.OK}, {[]int{1<<63 - 1}, 1<<63 - 2, 0, api.ErrNone},
		{[]int{-3, -1, 0, 1, 3}, -2, 0, api.OK}, {[]int{-3, -1, 0, 1, 3}, -1, 1, api.OK}, {[]int{-3, -1, 0, 1, 3}, 0, 2, api.OK}, {[]int{-3, -1, 0, 1, 3}, 2, 3, api.OK}, {[]int{-3, -1, 0, 1, 3}, 3, 4, api.OK}, {[]int{-3, -1, 0, 1, 3}, -4, 0, api.ErrNone},
	} {
		list := versions(t, c.days...)
		if n, e := InForce(list, c.day); n != c.want || e != c.e {
			t.Errorf("InForce of %d, %d: %d, %d; want %d, %d", c.days, c.day, n, e, c.want, c.e)
		}
	}
	// The versions in force on all days of a calendar with the most versions.
	list := versions(t, daysUpTo(40)...)
	for day := range 100 {
		n, e := InForce(list, day)
		if want := min(day, 40) - 1; day > 0 && (n != want || e != api.OK) || day == 0 && e != api.ErrNone {
			t.Errorf("InForce on day %d: %d, %d", day, n, e)
		}
	}
	// Lists that are no calendars have some result.
	for _, days := range [][]int{{2, 1}, {1, 1}, {3, 1, 2}} {
		for day := range 5 {
			InForce(versions(t, days...), day)
		}
	}
	if MaxVersions != 40 {
		t.Errorf("MaxVersions is %d", MaxVersions)
	}
}
