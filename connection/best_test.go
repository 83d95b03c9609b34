package connection

import (
	"math/rand"
	"reflect"
	"slices"
	"strings"
	"testing"

	"salchow/api"
)

func TestBest(t *testing.T) {
	c := example()
	c.Elements = append(c.Elements, api.Element{Code: "S", Class: "jump"}, api.Element{Code: "a", Class: "jump"}, api.Element{Code: "AA", Class: "jump"})
	for _, x := range []struct {
		codes, want string
		bonus       int64
	}{
		{"A S B", "S A B", 700},
		{"", "", 0},
		{"T", "T", 0},
		{"S", "S", 0},
		{"B A", "A B", 500},
		{"S S", "S S", 0},
		{"A A A", "A A A", 1000},
		{"T S A S B", "S A B S T", 700},
		{"T A", "A T", 0},
		{"A T B", "A B T", 500},
		{"S A", "S A", 200},
		{"S A S A", "S A A S", 700},
		{"a AA B A", "A AA B a", 1500},
		{"B B B B A A A A", "A A A A B B B B", 3500},
		{"T S T S T S T A", "S A S S T T T T", 200},
	} {
		codes := strings.Fields(x.codes)
		before := slices.Clone(codes)
		order, bonus, e := Best(c, codes)
		if strings.Join(order, " ") != x.want || bonus != x.bonus || e != api.OK || !slices.Equal(codes, before) {
			t.Errorf("Best(%s): %v, %d, %d; want %s, %d", x.codes, order, bonus, e, x.want, x.bonus)
		}
		for i := range order {
			order[i] = ""
		}
		if !slices.Equal(codes, before) {
			t.Errorf("Best(%s) shares memory with its argument", x.codes)
		}
	}
}

func TestErrorsOfBest(t *testing.T) {
	c := example()
	for _, x := range []struct {
		codes []string
		want  api.Errno
	}{
		{slices.Repeat([]string{"A"}, 8), api.OK},
		{slices.Repeat([]string{"A"}, 9), api.ErrLimit},
		{make([]string, 9), api.ErrLimit},
		{make([]string, 8), api.ErrName},
		{make([]string, 100000), api.ErrLimit},
		{[]string{"X"}, api.ErrName},
		{[]string{"A", "B", "S", "jump"}, api.ErrName},
		{[]string{"A", "a"}, api.ErrName},
		{[]string{""}, api.ErrName},
		{[]string{"A", "A+B"}, api.ErrName},
	} {
		order, bonus, e := Best(c, x.codes)
		if e != x.want || e != api.OK && (order != nil || bonus != 0) {
			t.Errorf("Best(%q): %v, %d, %d", x.codes, order, bonus, e)
		}
	}
	if _, _, e := Best(api.Catalog{}, []string{"A"}); e != api.ErrName {
		t.Errorf("Best without elements: %d", e)
	}
	if order, bonus, e := Best(api.Catalog{}, nil); len(order) != 0 || bonus != 0 || e != api.OK {
		t.Errorf("Best without elements and codes: %v, %d, %d", order, bonus, e)
	}
	c.Elements = append(c.Elements, api.Element{Class: "spin"})
	if order, bonus, e := Best(c, []string{"A", "", "A"}); !slices.Equal(order, []string{"", "A", "A"}) || bonus != 700 || e != api.OK {
		t.Errorf("Best with an empty code of the catalog: %q, %d, %d", order, bonus, e)
	}
}

// permutations calls a function for all orders of a list.
func permutations(list []string, visit func([]string)) {
	var place func(n int)
	place = func(n int) {
		if n == len(list) {
			visit(list)
		}
		for i := n; i < len(list); i++ {
			list[n], list[i] = list[i], list[n]
			place(n + 1)
			list[n], list[i] = list[i], list[n]
		}
	}
	place(0)
}

// bonusOf returns the bonus of an order, by the definition.
func bonusOf(c api.Catalog, order []string) int64 {
	class := func(code string) string {
		return c.Elements[slices.IndexFunc(c.Elements, func(x api.Element) bool { return x.Code == code })].Class
	}
	var sum int64
	for i := range order {
		if i > 0 && class(order[i-1]) != "" && class(order[i]) != "" {
			value, _ := Value(c, class(order[i-1]), class(order[i]))
			sum += value
		}
	}
	return sum
}

func TestBestOfAllOrders(t *testing.T) {
	random := rand.New(rand.NewSource(212))
	for round := range 400 {
		c := randomCatalog(random)
		if random.Intn(4) == 0 {
			for i := range c.Connects {
				c.Connects[i].Value -= 4
			}
		}
		length := random.Intn(6)
		if round < 5 {
			length = 8
		}
		var codes []string
		for range length {
			codes = append(codes, c.Elements[random.Intn(8)].Code)
		}
		var want []string
		var most int64
		permutations(slices.Clone(codes), func(order []string) {
			bonus := bonusOf(c, order)
			if want == nil || bonus > most || bonus == most && slices.Compare(order, want) < 0 {
				want, most = slices.Clone(order), bonus
			}
		})
		before := copied(c)
		order, bonus, e := Best(c, codes)
		if !slices.Equal(order, want) || bonus != most || e != api.OK || !reflect.DeepEqual(c, before) {
			t.Errorf("Best(%v, %v): %v, %d, %d; want %v, %d", c, codes, order, bonus, e, want, most)
		}
	}
}
