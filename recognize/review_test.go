package recognize

import (
	"math"
	"math/rand"
	"slices"
	"testing"

	"salchow/api"
	"salchow/notation"
)

func TestSettle(t *testing.T) {
	items := line(t, "3A?+2A<<? 2T?*+CSp<* 4S")
	before := slices.Clone(items)
	for _, x := range []struct {
		index, steps int
		void         bool
		want         string
		e            api.Errno
	}{
		{0, 0, false, "3A+2A<<? 2T?*+CSp<* 4S", api.OK},
		{0, 1, false, "3A<+2A<<? 2T?*+CSp<* 4S", api.OK},
		{0, 9, false, "3A<<<<<<<<<+2A<<? 2T?*+CSp<* 4S", api.OK},
		{0, 0, true, "3A*+2A<<? 2T?*+CSp<* 4S", api.OK},
		{0, 2, true, "3A<<*+2A<<? 2T?*+CSp<* 4S", api.OK},
		{1, 0, false, "3A?+2A<< 2T?*+CSp<* 4S", api.OK},
		{1, 3, false, "3A?+2A<<<<< 2T?*+CSp<* 4S", api.OK},
		{1, 7, false, "3A?+2A<<<<<<<<< 2T?*+CSp<* 4S", api.OK},
		// What was not credited stays so.
		{2, 0, false, "3A?+2A<<? 2T*+CSp<* 4S", api.OK},
		{2, 1, true, "3A?+2A<<? 2T<*+CSp<* 4S", api.OK},
		{0, 10, false, "", api.ErrRange},
		{0, 11, true, "", api.ErrRange},
		{1, 8, false, "", api.ErrRange},
		{1, math.MaxInt, false, "", api.ErrRange},
		{1, math.MaxInt - 1, false, "", api.ErrRange},
		{3, 0, false, "", api.ErrState},
		{4, 0, true, "", api.ErrState},
		{4, 10, false, "", api.ErrState},
		{4, math.MaxInt, false, "", api.ErrState},
		{-1, 0, false, "", api.ErrArgument},
		{5, 0, false, "", api.ErrArgument},
		{math.MaxInt, 0, false, "", api.ErrArgument},
		{math.MinInt, 10, false, "", api.ErrArgument},
		{0, -1, false, "", api.ErrArgument},
		{0, math.MinInt, true, "", api.ErrArgument},
		{4, -1, false, "", api.ErrArgument},
		{3, -10, true, "", api.ErrArgument},
	} {
		settled, e := Settle(items, x.index, x.steps, x.void)
		text, _ := notation.Print(settled)
		if text != x.want || e != x.e || e != api.OK && settled != nil || !slices.Equal(items, before) {
			t.Errorf("Settle(%d, %d, %v): %q, %d; want %q, %d", x.index, x.steps, x.void, text, e, x.want, x.e)
		}
		for i := range settled {
			settled[i] = api.Item{}
		}
		if !slices.Equal(items, before) {
			t.Fatal("the line shares memory with the settled one")
		}
	}
}

// valueOf returns the sum of the values of a recognized line.
func valueOf(items []api.Recognized) int64 {
	var sum int64
	for _, x := range items {
		sum += x.Value
	}
	return sum
}

func TestSettleOfRandomLines(t *testing.T) {
	random := rand.New(rand.NewSource(203))
	settledLines := 0
	for range 5000 {
		c := randomCatalog(t, random)
		items := randomItems(random, c)
		before := slices.Clone(items)
		index, steps, void := random.Intn(len(items)+2)-1, random.Intn(5)*random.Intn(4)-1, random.Intn(3) == 0
		wantE := api.OK
		var want []api.Item
		switch {
		case index < 0 || index >= len(items) || steps < 0:
			wantE = api.ErrArgument
		case !items[index].Review:
			wantE = api.ErrState
		case items[index].Down+steps > 9:
			wantE = api.ErrRange
		default:
			x := items[index]
			want = slices.Replace(slices.Clone(items), index, index+1, api.Item{Code: x.Code, Down: x.Down + steps, Void: void || x.Void, Joined: x.Joined})
		}
		settled, e := Settle(items, index, steps, void)
		if e != wantE || !slices.Equal(settled, want) || !slices.Equal(items, before) {
			t.Errorf("Settle(%v, %d, %d, %v): %v, %d; want %v, %d", items, index, steps, void, settled, e, want, wantE)
		}
		if e == api.OK {
			settledLines++
			checkWorth(t, c, items, settled, index, steps == 0 && !void)
		}
	}
	if settledLines < 1000 {
		t.Errorf("%d settled lines", settledLines)
	}
}

// checkWorth checks what a line is worth after the review of an item, as it was if it is confirmed.
func checkWorth(t *testing.T, c api.Catalog, items, settled []api.Item, index int, confirmed bool) {
	t.Helper()
	a, e := Line(c, items)
	b, f := Line(c, settled)
	if e != api.OK || f != api.OK || len(a) != len(b) || valueOf(b) > valueOf(a) || confirmed && valueOf(b) != valueOf(a) {
		t.Errorf("Line: %v, %d; settled %v, %d", a, e, b, f)
	}
	if b[index].Review || b[index].Joined != a[index].Joined {
		t.Errorf("the item: %v, %v", a[index], b[index])
	}
	a[index].Review = false
	if !confirmed {
		a[index] = b[index]
	}
	if !slices.Equal(a, b) {
		t.Errorf("items that are not touched: %v, %v", a, b)
	}
	lost, _ := Lost(c, items)
	if after, e := Lost(c, settled); e != api.OK || after < lost {
		t.Errorf("Lost: %d, then %d, %d", lost, after, e)
	}
}
