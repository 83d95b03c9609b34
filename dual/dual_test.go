package dual

import (
	"math/rand"
	"slices"
	"strconv"
	"testing"

	"salchow/api"
	"salchow/counting"
)

func TestSets(t *testing.T) {
	groups := func(credits ...int64) api.Catalog {
		var c api.Catalog
		for i, n := range credits {
			c.Groups = append(c.Groups, api.Group{Name: "g" + strconv.Itoa(i), Limit: 1, Credit: n})
		}
		return c
	}
	of := func(names ...string) []api.Recognized {
		var items []api.Recognized
		for _, name := range names {
			items = append(items, item("c", name, 1))
		}
		return items
	}
	three := [][]string{nil, {"g0"}, {"g1"}, {"g0", "g1"}, {"g2"}, {"g0", "g2"}, {"g1", "g2"}, {"g0", "g1", "g2"}}
	twice := groups(1, 1)
	twice.Groups[1].Name = "g0"
	reversed := groups(1, 1)
	slices.Reverse(reversed.Groups)
	for i, y := range []struct {
		c     api.Catalog
		items []api.Recognized
		want  [][]string
	}{
		{api.Catalog{}, nil, [][]string{nil}},
		{api.Catalog{}, of("g0"), [][]string{nil}},
		{groups(1, 1), nil, [][]string{nil}},
		{groups(1, 1), of("g1"), [][]string{nil, {"g1"}}},
		{groups(0, 1), of("g1", "g0"), [][]string{nil, {"g1"}}},
		{groups(-1, 1), of("g1", "g0"), [][]string{nil, {"g1"}}},
		{groups(1, 0), of("g1", "g0"), [][]string{nil, {"g0"}}},
		{groups(1, 1, 1), of("g2", "g1", "g0", "g1"), three},
		{groups(1, 0, 1), of("g2", "g1", "g0", "g1"), [][]string{nil, {"g0"}, {"g2"}, {"g0", "g2"}}},
		{groups(1, 1), []api.Recognized{{Group: "g0"}, item("c", "g1", 0)}, [][]string{nil, {"g1"}}},
		{groups(1), slices.Repeat(of("g0"), 1000), [][]string{nil, {"g0"}}},
		{groups(1, 1, 1, 1, 1, 1, 1), of("g0"), nil},
		{twice, of("g0"), nil},
		{reversed, of("g0"), nil},
	} {
		if sets := Sets(y.c, y.items); !slices.EqualFunc(sets, y.want, slices.Equal) {
			t.Errorf("%d: Sets(%v, %v): %q, want %q", i, y.c, y.items, sets, y.want)
		}
	}
	sets := Sets(groups(1, 1, 1, 1, 1, 1), of("g0", "g1", "g2", "g3", "g4", "g5"))
	if len(sets) != 64 || !slices.Equal(sets[37], []string{"g0", "g2", "g5"}) || len(sets[63]) != 6 {
		t.Errorf("six groups: %q", sets)
	}
	for _, set := range sets {
		for i := range set {
			if set[i] == "x" {
				t.Error("sets share memory")
			}
			set[i] = "x"
		}
		_ = append(set, "x")
	}
}

func TestSetsOfRandomTasks(t *testing.T) {
	random := rand.New(rand.NewSource(231))
	for range 1000 {
		x := randomTask(random, 12)
		if sets := Sets(x.c, x.items); !slices.EqualFunc(sets, x.sets(), slices.Equal) {
			t.Errorf("Sets(%v): %q, want %q", x, sets, x.sets())
		}
	}
}

func TestBound(t *testing.T) {
	x := example()
	code := []api.Priced{{Name: "2A", Price: 2200}}
	jump := []string{"jump"}
	for _, y := range []struct {
		p    api.Prices
		want int64
	}{
		{exampleCert()[0], 4400},
		{exampleCert()[1], 4900},
		{api.Prices{}, 8800},
		{api.Prices{Set: jump}, 9300},
		{api.Prices{Count: MaxPrice}, 2000000000},
		{api.Prices{Count: 1000}, 2000 + 2300 + 2300 + 100 + 100},
		{api.Prices{Codes: code}, 2200 + 4400},
		{api.Prices{Codes: []api.Priced{{Name: "1A", Price: MaxPrice}}}, 1000000000 + 7700},
		{api.Prices{Limits: []api.Priced{{Name: "jump", Price: 1500}, {Name: "spin", Price: 100}}}, 3000 + 100 + 3600 + 1000},
		{api.Prices{Set: jump, Subsidies: []api.Priced{{Name: "jump", Price: 50}}}, 8800 + 3*50 - 50 + 500},
		{api.Prices{Set: jump, Count: MaxPrice, Subsidies: []api.Priced{{Name: "jump", Price: MaxPrice}}}, 1000000000 + 7700 + 500},
	} {
		before := x.copied()
		if b, e := Bound(x.c, x.s, x.items, y.p); b != y.want || e != api.OK {
			t.Errorf("Bound(%v): %d, %d; want %d", y.p, b, e, y.want)
		}
		x.unchanged(t, before)
	}
	// Items that are no candidates have no profit, whatever else they have.
	x.items = append(x.items, api.Recognized{Code: "2A", Group: "jump", Value: -1 << 63}, api.Recognized{Value: 1<<63 - 1})
	if b, e := Bound(x.c, x.s, x.items, exampleCert()[1]); b != 4900 || e != api.OK {
		t.Errorf("Bound with other items: %d, %d", b, e)
	}
	// The limits of the segment and of the group count, each for its prices.
	x.s.Count, x.s.Repeat = 5, 7
	x.c.Groups[0].Limit = 11
	p := api.Prices{Set: jump, Count: 1e4, Codes: []api.Priced{{Name: "2A", Price: 10}}, Limits: []api.Priced{{Name: "jump", Price: 1}}}
	if b, e := Bound(x.c, x.s, x.items, p); b != 5e4+70+11+500 || e != api.OK {
		t.Errorf("Bound with other limits: %d, %d", b, e)
	}
}

func TestGreatestBound(t *testing.T) {
	x := task{s: api.Segment{Count: 30, Repeat: 30}}
	for i := range 6 {
		name := "g" + strconv.Itoa(i)
		x.c.Groups = append(x.c.Groups, api.Group{Name: name, Limit: 30, Credit: api.MaxMilli})
	}
	p := api.Prices{Count: MaxPrice}
	for i := range 30 {
		g := x.c.Groups[i%6].Name
		code := g + "c" + string(rune('a'+i))
		x.items = append(x.items, item(code, g, api.MaxMilli))
		p.Codes = append(p.Codes, api.Priced{Name: code, Price: MaxPrice})
	}
	slices.SortFunc(p.Codes, func(a, b api.Priced) int { return slices.Compare([]byte(a.Name), []byte(b.Name)) })
	for _, g := range x.c.Groups {
		p.Set = append(p.Set, g.Name)
		p.Limits = append(p.Limits, api.Priced{Name: g.Name, Price: MaxPrice})
	}
	const want = int64(MaxPrice)*(30+30*30+6*30) + 6*api.MaxMilli
	if b, e := Bound(x.c, x.s, x.items, p); b != want || e != api.OK {
		t.Errorf("Bound: %d, %d; want %d", b, e, want)
	}
}

// TestBoundOfRandomPrices checks the bound, and that no choice with items of the groups of the set is worth more.
func TestBoundOfRandomPrices(t *testing.T) {
	random := rand.New(rand.NewSource(232))
	for range 400 {
		x := randomTask(random, 9)
		list := x.choices()
		for _, set := range x.sets() {
			p := x.randomPrices(random, set)
			b, e := Bound(x.c, x.s, x.items, p)
			if b != x.bound(p) || e != api.OK {
				t.Fatalf("Bound(%v, %v): %d, %d; want %d", x, p, b, e, x.bound(p))
			}
			for _, chosen := range list {
				within := !slices.ContainsFunc(set, func(name string) bool { return x.ofGroup(chosen, name) == 0 })
				if within && x.values(chosen)+x.credits(set) > b {
					t.Errorf("%v: the choice %v has more than the bound %d of %v", x, chosen, b, p)
				}
			}
		}
	}
}

func TestCheck(t *testing.T) {
	x := example()
	free := exampleCert()
	free[1].Count, free[1].Codes = 0, nil
	for i, y := range []struct {
		choice api.Choice
		cert   []api.Prices
		want   api.Errno
	}{
		{api.Choice{Items: []int{0, 2}, Worth: 4900}, exampleCert(), api.OK},
		{api.Choice{Items: []int{0, 3}, Worth: 4900}, exampleCert(), api.OK},
		{api.Choice{Items: []int{1, 2}, Worth: 4900}, exampleCert(), api.OK},
		{api.Choice{Items: []int{0, 2}, Worth: 4901}, exampleCert(), api.ErrArgument},
		{api.Choice{Items: []int{0, 2}, Worth: 4899}, exampleCert(), api.ErrArgument},
		{api.Choice{Items: []int{0, 2}, Worth: 4400}, exampleCert(), api.ErrArgument},
		{api.Choice{Items: []int{2, 0}, Worth: 4900}, exampleCert(), api.ErrArgument},
		{api.Choice{Items: []int{0, 1}, Worth: 7100}, exampleCert(), api.ErrArgument},
		{api.Choice{Items: []int{0, 4}, Worth: 4900}, exampleCert(), api.ErrArgument},
		{api.Choice{Items: []int{-1, 0}, Worth: 4900}, exampleCert(), api.ErrArgument},
		{api.Choice{Items: []int{0, 1}, Worth: 7100}, nil, api.ErrArgument},
		{api.Choice{Items: []int{0, 2}, Worth: 4901}, nil, api.ErrArgument},
		{api.Choice{Items: []int{0}, Worth: 3800}, exampleCert(), api.ErrAuth},
		{api.Choice{}, exampleCert(), api.ErrAuth},
		{api.Choice{Items: []int{0, 2}, Worth: 4900}, nil, api.ErrAuth},
		{api.Choice{Items: []int{0, 2}, Worth: 4900}, exampleCert()[:1], api.ErrAuth},
		{api.Choice{Items: []int{0, 2}, Worth: 4900}, exampleCert()[1:], api.ErrAuth},
		{api.Choice{Items: []int{0, 2}, Worth: 4900}, append(exampleCert(), exampleCert()[1]), api.ErrAuth},
		{api.Choice{Items: []int{0, 2}, Worth: 4900}, []api.Prices{exampleCert()[1], exampleCert()[0]}, api.ErrAuth},
		{api.Choice{Items: []int{0, 2}, Worth: 4900}, free, api.ErrAuth},
		{api.Choice{Items: []int{0, 2}, Worth: 4900}, make([]api.Prices, 1000000), api.ErrAuth},
	} {
		if e := Check(x.c, x.s, x.items, y.choice, y.cert); e != y.want {
			t.Errorf("%d: Check(%v, %v): %d, want %d", i, y.choice, y.cert, e, y.want)
		}
	}
	// A bound that is greater by one is too great; one that is less is not, if another one is the worth.
	cert := exampleCert()
	cert[0].Count += 250
	if e := Check(x.c, x.s, x.items, api.Choice{Items: []int{0, 2}, Worth: 4900}, cert); e != api.OK {
		t.Errorf("with a bound of 4900 for {}: %d", e)
	}
	cert[0].Codes[0].Price++
	if e := Check(x.c, x.s, x.items, api.Choice{Items: []int{0, 2}, Worth: 4900}, cert); e != api.ErrAuth {
		t.Errorf("with a bound of 4901 for {}: %d", e)
	}
	if e := Check(x.c, x.s, nil, api.Choice{}, []api.Prices{{}}); e != api.OK {
		t.Errorf("without items: %d", e)
	}
}

func TestGap(t *testing.T) {
	x := example()
	wide := exampleCert()
	wide[0].Count += 400
	for i, y := range []struct {
		chosen []int
		cert   []api.Prices
		gap    int64
		e      api.Errno
	}{
		{[]int{0}, exampleCert(), 1100, api.OK},
		{[]int{0, 2}, exampleCert(), 0, api.OK},
		{nil, exampleCert(), 4900, api.OK},
		{[]int{3}, exampleCert(), 3800, api.OK},
		{[]int{0, 2}, wide, 300, api.OK},
		{[]int{0, 1}, exampleCert(), 0, api.ErrArgument},
		{[]int{2, 0}, exampleCert(), 0, api.ErrArgument},
		{[]int{0, 1}, nil, 0, api.ErrArgument},
		{[]int{0, 2}, nil, 0, api.ErrAuth},
		{[]int{0, 2}, exampleCert()[:1], 0, api.ErrAuth},
		{[]int{0, 2}, append(exampleCert(), exampleCert()[1]), 0, api.ErrAuth},
		{[]int{0, 2}, []api.Prices{exampleCert()[1], exampleCert()[0]}, 0, api.ErrAuth},
	} {
		before := x.copied()
		if gap, e := Gap(x.c, x.s, x.items, y.chosen, y.cert); gap != y.gap || e != y.e {
			t.Errorf("%d: Gap(%v, %v): %d, %d; want %d, %d", i, y.chosen, y.cert, gap, e, y.gap, y.e)
		}
		x.unchanged(t, before)
	}
}

// TestRandomCertificates checks Check and Gap by full certificates that prove nothing, too little, or enough.
func TestRandomCertificates(t *testing.T) {
	random := rand.New(rand.NewSource(233))
	proved, gaps := 0, 0
	for range 600 {
		x := randomTask(random, 7)
		best, e := counting.Best(x.c, x.s, x.items)
		if e != api.OK {
			t.Fatal(e)
		}
		cert, _ := counting.Certify(x.c, x.s, x.items)
		if random.Intn(2) == 0 {
			cert = x.randomCert(random)
		}
		greatest := x.bound(cert[0])
		for _, p := range cert {
			greatest = max(greatest, x.bound(p))
		}
		for _, chosen := range x.choices() {
			worth := x.worth(chosen)
			want := api.OK
			if greatest > worth {
				want = api.ErrAuth
			} else {
				proved++
			}
			if e := Check(x.c, x.s, x.items, api.Choice{Items: chosen, Worth: worth}, cert); e != want {
				t.Errorf("Check(%v, %v, %v): %d, want %d", x, chosen, cert, e, want)
			}
			gap, e := Gap(x.c, x.s, x.items, chosen, cert)
			if gap != greatest-worth || e != api.OK || worth+gap < best.Worth {
				t.Errorf("Gap(%v, %v, %v): %d, %d; want %d", x, chosen, cert, gap, e, greatest-worth)
			}
			if gap > 0 {
				gaps++
			}
		}
	}
	if proved < 200 || gaps < 1000 {
		t.Errorf("only %d choices are proved, and %d have gaps", proved, gaps)
	}
}

// TestCheckOfBest checks that the certificate of layer 22 proves its choice.
func TestCheckOfBest(t *testing.T) {
	random := rand.New(rand.NewSource(234))
	for range 1500 {
		x := randomTask(random, 30)
		for i := range x.items {
			x.items[i].Value = random.Int63n(api.MaxMilli+1) >> random.Intn(20)
		}
		best, _ := counting.Best(x.c, x.s, x.items)
		cert, _ := counting.Certify(x.c, x.s, x.items)
		if e := Check(x.c, x.s, x.items, best, cert); e != api.OK {
			t.Errorf("Check(%v, %v, %v): %d", x, best, cert, e)
		}
		if gap, e := Gap(x.c, x.s, x.items, best.Items, cert); gap != 0 || e != api.OK {
			t.Errorf("Gap(%v, %v, %v): %d, %d", x, best, cert, gap, e)
		}
	}
}
