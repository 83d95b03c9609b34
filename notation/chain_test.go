package notation

import (
	"math/rand"
	"slices"
	"testing"

	"salchow/api"
)

// chainsOf returns the runs of items that are chains according to the definition.
func chainsOf(items []api.Item) [][2]int {
	// isRun reports whether all items but the last are joined.
	isRun := func(first, behind int) bool {
		for i := first; i < behind-1; i++ {
			if !items[i].Joined {
				return false
			}
		}
		return true
	}
	var chains [][2]int
	for first := range items {
		for behind := first + 1; behind <= len(items) && isRun(first, behind); behind++ {
			longerLeft := first > 0 && isRun(first-1, behind)
			longerRight := behind < len(items) && isRun(first, behind+1)
			if !longerLeft && !longerRight {
				chains = append(chains, [2]int{first, behind})
			}
		}
	}
	return chains
}

// copies returns a copy of lists of items that shares no memory with them.
func copies(chains [][]api.Item) [][]api.Item {
	var list [][]api.Item
	for _, chain := range chains {
		list = append(list, slices.Clone(chain))
	}
	return list
}

// same reports whether two lists have equal lists of items.
func same(a, b [][]api.Item) bool { return slices.EqualFunc(a, b, slices.Equal[[]api.Item]) }

// checkChains checks the results of Chains and Split for any items.
func checkChains(t *testing.T, items []api.Item) {
	t.Helper()
	before := slices.Clone(items)
	want := chainsOf(items)
	if chains := Chains(items); !slices.Equal(chains, want) {
		t.Errorf("Chains(%v): %v; want %v", items, chains, want)
	}
	split := Split(items)
	if len(split) != len(want) {
		t.Fatalf("Split(%v): %v", items, split)
	}
	for i, chain := range want {
		if !slices.Equal(split[i], items[chain[0]:chain[1]]) {
			t.Errorf("Split(%v): %v", items, split)
		}
	}
	if !slices.Equal(items, before) {
		t.Errorf("the items %v have changed", before)
	}
}

func TestChainsAndSplit(t *testing.T) {
	for n := range 9 {
		for joined := range 1 << n {
			items := make([]api.Item, n)
			for i := range items {
				items[i] = api.Item{Code: string(rune('a' + i)), Joined: joined>>i&1 == 1}
			}
			checkChains(t, items)
		}
	}
	random := rand.New(rand.NewSource(194))
	for range 500 {
		items := randomItems(random, random.Intn(50))
		for i := range items {
			switch random.Intn(8) {
			case 0:
				items[i].Code = "no code"
			case 1:
				items[i].Down = random.Intn(100) - 50
			}
		}
		checkChains(t, items)
	}
	items, _ := Parse(" 3A+2T<?  FUSSp4* ")
	if chains := Chains(items); !slices.Equal(chains, [][2]int{{0, 2}, {2, 3}}) {
		t.Errorf("%v", chains)
	}
	if chains, split := Chains(nil), Split(nil); len(chains) != 0 || len(split) != 0 {
		t.Errorf("no items: %v, %v", chains, split)
	}
	if chains := Chains([]api.Item{{Joined: true}, {Joined: true}}); !slices.Equal(chains, [][2]int{{0, 2}}) {
		t.Errorf("a last item that is joined: %v", chains)
	}
}

func TestSplitSharesNoMemory(t *testing.T) {
	items := []api.Item{{Code: "a", Joined: true}, {Code: "b"}, {Code: "c"}, {Code: "d", Joined: true}}
	before := slices.Clone(items)
	split := Split(items)
	for i := range split {
		others := copies(split)
		split[i] = append(split[i], api.Item{Code: "x"})
		split[i][0].Code = "y"
		others[i] = split[i]
		if !same(split, others) || !slices.Equal(items, before) {
			t.Errorf("a change of the chain %d changes %v, %v", i, split, items)
		}
	}
}

func TestMergeOfSplit(t *testing.T) {
	random := rand.New(rand.NewSource(195))
	for range 2000 {
		items := properItems(random)
		if merged, e := Merge(Split(items)); e != api.OK || !slices.Equal(merged, items) {
			t.Errorf("Merge of Split(%v): %v, %d", items, merged, e)
		}
	}
	if merged, e := Merge(nil); len(merged) != 0 || e != api.OK {
		t.Errorf("Merge of no chains: %v, %d", merged, e)
	}
}

func TestMerge(t *testing.T) {
	random := rand.New(rand.NewSource(196))
	for range 2000 {
		var chains [][]api.Item
		var want []api.Item
		for range random.Intn(7) {
			chain := randomItems(random, 1+random.Intn(5))
			chains = append(chains, chain)
			for i, x := range chain {
				want = append(want, x)
				want[len(want)-1].Joined = i+1 < len(chain)
			}
		}
		before := copies(chains)
		merged, e := Merge(chains)
		if e != api.OK || !slices.Equal(merged, want) || Check(merged) != api.OK {
			t.Errorf("Merge(%v): %v, %d", chains, merged, e)
		}
		for i := range merged {
			merged[i] = api.Item{}
		}
		if !same(chains, before) {
			t.Errorf("the chains %v have changed", before)
		}
	}
}

func TestErrorsOfMerge(t *testing.T) {
	random := rand.New(rand.NewSource(197))
	for range 3000 {
		var chains [][]api.Item
		for range 1 + random.Intn(5) {
			chains = append(chains, randomItems(random, 1+random.Intn(6)))
		}
		pick := func() *api.Item {
			chain := chains[random.Intn(len(chains))]
			return &chain[random.Intn(len(chain))]
		}
		want := api.OK
		if random.Intn(2) == 0 {
			pick().Down = []int{-1, 10}[random.Intn(2)]
			want = api.ErrRange
		}
		if random.Intn(2) == 0 {
			pick().Code = []string{"", "33", "123456789a"}[random.Intn(3)]
			want = api.ErrName
		}
		if random.Intn(4) == 0 {
			chains = slices.Insert(chains, random.Intn(len(chains)+1), randomItems(random, api.MaxItems))
			want = api.ErrLimit
		}
		if random.Intn(4) == 0 {
			chains = slices.Insert(chains, random.Intn(len(chains)+1), nil)
			want = api.ErrArgument
		}
		before := copies(chains)
		if merged, e := Merge(chains); e != want || e != api.OK && merged != nil {
			t.Errorf("Merge(%v): %v, %d; want %d", chains, merged, e, want)
		}
		if !same(chains, before) {
			t.Errorf("the chains %v have changed", before)
		}
	}
}

func TestLimitOfMerge(t *testing.T) {
	one := []api.Item{{Code: "a", Joined: true}}
	for n, want := range map[int]api.Errno{1: api.OK, 29: api.OK, 30: api.OK, 31: api.ErrLimit, 100000: api.ErrLimit} {
		if merged, e := Merge(slices.Repeat([][]api.Item{one}, n)); e != want || e == api.OK && len(merged) != n || e != api.OK && merged != nil {
			t.Errorf("%d chains: %v, %d", n, merged, e)
		}
		if merged, e := Merge([][]api.Item{slices.Repeat(one, n)}); e != want || e == api.OK && len(merged) != n || e != api.OK && merged != nil {
			t.Errorf("a chain of %d items: %v, %d", n, merged, e)
		}
	}
	// All chains are the same memory; all items together would be too many to collect.
	shared := slices.Repeat(one, 100000)
	if merged, e := Merge(slices.Repeat([][]api.Item{shared}, 100000)); e != api.ErrLimit || merged != nil {
		t.Errorf("long chains: %d", e)
	}
	if merged, e := Merge([][]api.Item{{{Code: "a"}}, {}, slices.Repeat(one, 40)}); e != api.ErrArgument || merged != nil {
		t.Errorf("an empty chain: %d", e)
	}
}
