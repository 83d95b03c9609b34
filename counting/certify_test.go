package counting

import (
	"math/rand"
	"slices"
	"strconv"
	"testing"

	"salchow/api"
)

// bound returns the bound of prices by the definition, and reports what is not as it has to be.
func bound(t *testing.T, x task, p api.Prices) int64 {
	t.Helper()
	price := func(n int64) int64 {
		if n < 0 || n > 1000000000 {
			t.Errorf("%v: the price %d of %v", x, n, p)
		}
		return n
	}
	codes := checkList(t, p.Codes, func(name string) bool {
		return slices.ContainsFunc(x.items, func(y api.Recognized) bool { return y.Credited && y.Code == name })
	})
	limits := checkList(t, p.Limits, x.candidateOf)
	subsidies := checkList(t, p.Subsidies, func(name string) bool { return slices.Contains(p.Set, name) })
	sum := price(p.Count) * int64(x.s.Count)
	for _, n := range codes {
		sum += price(n) * int64(x.s.Repeat)
	}
	for _, n := range subsidies {
		sum -= price(n)
	}
	for _, g := range x.c.Groups {
		sum += price(limits[g.Name]) * int64(g.Limit)
		if slices.Contains(p.Set, g.Name) {
			sum += g.Credit
		}
	}
	for _, y := range x.items {
		if y.Credited {
			sum += max(0, y.Value-p.Count-codes[y.Code]-limits[y.Group]+subsidies[y.Group])
		}
	}
	return sum
}

// candidateOf reports whether a group has a candidate.
func (x task) candidateOf(group string) bool {
	return slices.ContainsFunc(x.items, func(y api.Recognized) bool { return y.Credited && y.Group == group })
}

// checkList returns the prices of a list, and reports what is not as it has to be.
func checkList(t *testing.T, list []api.Priced, known func(string) bool) map[string]int64 {
	t.Helper()
	prices := map[string]int64{}
	for i, y := range list {
		if y.Price <= 0 || i > 0 && list[i-1].Name >= y.Name || !known(y.Name) {
			t.Errorf("the list %v", list)
		}
		prices[y.Name] = y.Price
	}
	return prices
}

// checkCertificate checks the certificate of a task.
func checkCertificate(t *testing.T, x task) {
	t.Helper()
	best, _ := Best(x.c, x.s, x.items)
	cert, e := Certify(x.c, x.s, x.items)
	var groups []string
	for _, g := range x.c.Groups {
		if g.Credit > 0 && x.candidateOf(g.Name) {
			groups = append(groups, g.Name)
		}
	}
	if e != api.OK || len(cert) != 1<<len(groups) {
		t.Fatalf("Certify(%v): %d elements, %d; the groups %v", x, len(cert), e, groups)
	}
	for n, p := range cert {
		var set []string
		for i, name := range groups {
			if n>>i&1 == 1 {
				set = append(set, name)
			}
		}
		if got := bound(t, x, p); got > best.Worth || !slices.Equal(p.Set, set) {
			t.Errorf("Certify(%v): element %d: %v with the bound %d; want %v, %d", x, n, p, got, set, best.Worth)
		}
	}
}

func TestCertifyOfExample(t *testing.T) {
	x := example()
	checkCertificate(t, x)
	cert, e := Certify(x.c, x.s, x.items)
	if e != api.OK || len(cert) != 2 || bound(t, x, cert[0]) != 4400 || bound(t, x, cert[1]) != 4900 {
		t.Errorf("Certify: %v, %d", cert, e)
	}
	for _, p := range cert {
		if p.Count != 1100 || !slices.Equal(p.Codes, []api.Priced{{Name: "2A", Price: 2200}}) || len(p.Limits) != 0 || len(p.Subsidies) != 0 {
			t.Errorf("prices: %v", p)
		}
	}
}

func TestCertifyOfSpecialTasks(t *testing.T) {
	x := example()
	for _, items := range [][]api.Recognized{nil, make([]api.Recognized, 30), x.items[3:], x.items[:1], {item("a", "jump", 0)}, {item("a", "spin", 0), item("b", "jump", 0)}, slices.Repeat(x.items[:1], 30)} {
		for _, s := range []api.Segment{{Count: 1, Repeat: 1}, {Count: 2, Repeat: 1}, {Count: 30, Repeat: 1}, {Count: 30, Repeat: 30}, {Count: 1, Repeat: 30}} {
			checkCertificate(t, task{x.c, s, items})
		}
	}
	if cert, e := Certify(api.Catalog{}, x.s, nil); e != api.OK || len(cert) != 1 || cert[0].Set != nil || cert[0].Count != 0 {
		t.Errorf("Certify without groups: %v, %d", cert, e)
	}
	// More groups than may count.
	var y task
	y.s = api.Segment{Count: 1, Repeat: 1}
	for i := range 6 {
		name := "g" + strconv.Itoa(i)
		y.c.Groups = append(y.c.Groups, api.Group{Name: name, Limit: 30, Credit: api.MaxMilli})
		y.items = append(y.items, item(name, name, api.MaxMilli), item(name, name, 0), item(name+"b", name, api.MaxMilli))
	}
	for count := 1; count <= 18; count++ {
		y.s.Count = count
		checkCertificate(t, y)
	}
}

func TestCertifyOfRandomTasks(t *testing.T) {
	random := rand.New(rand.NewSource(224))
	for range 3000 {
		checkCertificate(t, randomTask(random, 30))
	}
}

// TestCertifyOfWideValues has values of very different sizes, so that all kinds of prices occur.
func TestCertifyOfWideValues(t *testing.T) {
	random := rand.New(rand.NewSource(225))
	codes, limits, subsidies := 0, 0, 0
	for range 2000 {
		x := randomTask(random, 30)
		for i := range x.items {
			x.items[i].Value = random.Int63n(api.MaxMilli+1) >> random.Intn(20)
		}
		for i := range x.c.Groups {
			x.c.Groups[i].Credit = random.Int63n(api.MaxMilli+1) >> random.Intn(20)
		}
		checkCertificate(t, x)
		cert, _ := Certify(x.c, x.s, x.items)
		for _, p := range cert {
			codes, limits, subsidies = codes+len(p.Codes), limits+len(p.Limits), subsidies+len(p.Subsidies)
		}
	}
	if min(codes, limits, subsidies) < 1000 {
		t.Errorf("%d prices of codes, %d of groups, %d subsidies", codes, limits, subsidies)
	}
}
