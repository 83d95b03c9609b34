package lots

import (
	"cmp"
	"math"
	"math/rand"
	"slices"
	"strconv"
	"strings"
	"testing"

	"salchow/api"
	"salchow/blake"
	"salchow/ident"
)

// text and integer return encodings, by the definition.
func text(s string) string     { return strconv.Itoa(len(s)) + ":" + s }
func integer(n int64) string   { return "i" + strconv.FormatInt(n, 10) + ";" }
func hash(value string) string { return blake.Hex(blake.Sum([]byte(value))) }

// strange are strings that are no names, or that an encoding without lengths could mistake.
var strange = []string{"", "a", "usa", "USA", "2bars", "1:a", "i5;", "e", "l", "\x00", "\xff\xfe", "3:usa", strings.Repeat("x", 16), strings.Repeat("x", 17), strings.Repeat("long ", 100)}

// numbers are lots of all sizes.
var numbers = []int64{0, 1, -1, 5, 9, 10, -10, 123456789, math.MaxInt64, math.MinInt64}

// someReveals returns the reveals of strange strings and numbers.
func someReveals() []api.Reveal {
	var list []api.Reveal
	for _, party := range strange {
		for _, salt := range strange {
			for _, lot := range numbers {
				list = append(list, api.Reveal{Party: party, Salt: salt, Lot: lot})
			}
		}
	}
	return list
}

func TestCommit(t *testing.T) {
	found := map[string]api.Reveal{}
	for _, r := range someReveals() {
		got := Commit(r)
		if want := hash("l" + text("lot") + text(r.Party) + text(r.Salt) + integer(r.Lot) + "e"); got != want {
			t.Errorf("Commit(%v): %s; want %s", r, got, want)
		}
		if other, twice := found[got]; twice {
			t.Errorf("%v and %v have one commitment", r, other)
		}
		found[got] = r
	}
}

// The digests here and below are those of another implementation (Python's hashlib).
func TestKnownCommitments(t *testing.T) {
	for _, c := range []struct {
		r    api.Reveal
		want string
	}{
		{api.Reveal{Party: "usa", Salt: "00", Lot: 5}, "e64f99e56ef8a4201979546d181db0abe38aa44bc37e13fc5a44ad1d4d3ac536"},
		{api.Reveal{Lot: math.MinInt64}, "09ca39ca41f6db3c5f1fe7b5e561625bc0c9667b8b0e51f600874b971cbc4773"},
		{api.Reveal{Party: "aut", Salt: "0a1b", Lot: math.MaxInt64}, "49a03e67da53dca476feb039aa15dae96068a94f2098f78f41302549c18ac83f"},
		{api.Reveal{Party: "\x00\xff:", Salt: "\""}, "1a5faabcb3ec2babaa4f18829e1c38256df42f54bf20a170bc4d868fac313124"},
	} {
		if got := Commit(c.r); got != c.want {
			t.Errorf("Commit(%v): %s; want %s", c.r, got, c.want)
		}
	}
	if Commit(api.Reveal{Party: "usa", Salt: "00", Lot: 5}) != hash("l3:lot3:usa2:00i5;e") {
		t.Error("example 1")
	}
}

func TestCheck(t *testing.T) {
	for _, r := range someReveals() {
		if !Check(api.Commitment{Party: r.Party, Digest: Commit(r)}, r) {
			t.Errorf("Check of the commitment of %v is false", r)
		}
	}
	r := api.Reveal{Party: "usa", Salt: "0a", Lot: 5}
	digest := Commit(r)
	for _, c := range []struct {
		commit api.Commitment
		reveal api.Reveal
	}{
		{api.Commitment{Party: "aut", Digest: digest}, r},
		{api.Commitment{Party: "", Digest: digest}, r},
		{api.Commitment{Party: "usa", Digest: ""}, r},
		{api.Commitment{Party: "usa", Digest: strings.ToUpper(digest)}, r},
		{api.Commitment{Party: "usa", Digest: digest[:63]}, r},
		{api.Commitment{Party: "usa", Digest: digest + "0"}, r},
		{api.Commitment{Party: "usa", Digest: digest}, api.Reveal{Party: "usa", Salt: "0a", Lot: 6}},
		{api.Commitment{Party: "usa", Digest: digest}, api.Reveal{Party: "usa", Salt: "0A", Lot: 5}},
		{api.Commitment{Party: "usa", Digest: digest}, api.Reveal{Party: "aut", Salt: "0a", Lot: 5}},
		{api.Commitment{}, api.Reveal{}},
	} {
		if Check(c.commit, c.reveal) {
			t.Errorf("Check(%v, %v) is true", c.commit, c.reveal)
		}
	}
}

// A draw is what the parties of one draw have said.
type draw struct {
	commits []api.Commitment
	reveals []api.Reveal
}

// randomDraw returns a draw of few parties, with honest, changed, lacking, repeated and conflicting commitments and reveals.
func randomDraw(random *rand.Rand) draw {
	var d draw
	for _, party := range []string{"usa", "aut", "chn", "b_2", "USA", "", "2b", strings.Repeat("x", 16), strings.Repeat("x", 17)} {
		right := api.Reveal{Party: party, Salt: "0" + strconv.Itoa(random.Intn(3)), Lot: int64(random.Intn(3) - 1)}
		wrong := api.Reveal{Party: party, Salt: "0" + strconv.Itoa(random.Intn(3)), Lot: int64(random.Intn(3) - 1)}
		for range random.Intn(3) {
			d.commits = append(d.commits, api.Commitment{Party: party, Digest: Commit(right)})
		}
		if random.Intn(5) == 0 {
			d.commits = append(d.commits, api.Commitment{Party: party, Digest: []string{"", "00", Commit(wrong), strings.ToUpper(Commit(right))}[random.Intn(4)]})
		}
		for range random.Intn(3) {
			d.reveals = append(d.reveals, right)
		}
		for range random.Intn(2) {
			d.reveals = append(d.reveals, wrong)
		}
	}
	return shuffled(random, d)
}

// shuffled returns the same draw in another order.
func shuffled(random *rand.Rand, d draw) draw {
	other := draw{slices.Clone(d.commits), slices.Clone(d.reveals)}
	random.Shuffle(len(other.commits), func(i, k int) { other.commits[i], other.commits[k] = other.commits[k], other.commits[i] })
	random.Shuffle(len(other.reveals), func(i, k int) { other.reveals[i], other.reveals[k] = other.reveals[k], other.reveals[i] })
	return other
}

// definedValid returns the reveals that count and the missing parties, by the definition.
func definedValid(d draw) ([]api.Reveal, []string) {
	var valid []api.Reveal
	var missing []string
	parties := []string{}
	for _, c := range d.commits {
		parties = append(parties, c.Party)
	}
	for _, party := range ident.Set(parties) {
		if !ident.Name(party) {
			continue
		}
		var digests []string
		for _, c := range d.commits {
			if c.Party == party {
				digests = append(digests, c.Digest)
			}
		}
		var fitting []api.Reveal
		for _, r := range d.reveals {
			if r.Party == party && len(ident.Set(digests)) == 1 && Commit(r) == digests[0] {
				fitting = append(fitting, r)
			}
		}
		if len(fitting) > 0 {
			valid = append(valid, fitting[0])
		} else {
			missing = append(missing, party)
		}
	}
	return valid, missing
}

func TestValidAndMissing(t *testing.T) {
	random := rand.New(rand.NewSource(1))
	for range 500 {
		d := randomDraw(random)
		before := draw{slices.Clone(d.commits), slices.Clone(d.reveals)}
		valid, missing := definedValid(d)
		got, lacking := Valid(d.commits, d.reveals), Missing(d.commits, d.reveals)
		if !slices.Equal(got, valid) {
			t.Errorf("Valid(%v): %v; want %v", d, got, valid)
		}
		if !slices.Equal(lacking, missing) {
			t.Errorf("Missing(%v): %v; want %v", d, lacking, missing)
		}
		if !slices.Equal(d.commits, before.commits) || !slices.Equal(d.reveals, before.reveals) {
			t.Errorf("%v was changed: %v", before, d)
		}
		checkParties(t, d, got, lacking)
	}
}

// checkParties checks that every party with a valid name that has committed either counts or is missing, and no other one.
func checkParties(t *testing.T, d draw, valid []api.Reveal, missing []string) {
	t.Helper()
	var all, committed []string
	for _, r := range valid {
		all = append(all, r.Party)
	}
	all = append(all, missing...)
	for _, c := range d.commits {
		if ident.Name(c.Party) {
			committed = append(committed, c.Party)
		}
	}
	slices.Sort(all)
	if !slices.Equal(all, ident.Set(committed)) {
		t.Errorf("%v: %v of %v count or are missing", d, all, committed)
	}
}

func TestOrderAndRepetitionDoNotMatter(t *testing.T) {
	random := rand.New(rand.NewSource(2))
	for range 200 {
		d := randomDraw(random)
		other := shuffled(random, draw{slices.Concat(d.commits, d.commits), slices.Concat(d.reveals, d.reveals, d.reveals)})
		if a, b := Valid(d.commits, d.reveals), Valid(other.commits, other.reveals); !slices.Equal(a, b) {
			t.Errorf("Valid: %v, %v", a, b)
		}
		if a, b := Missing(d.commits, d.reveals), Missing(other.commits, other.reveals); !slices.Equal(a, b) {
			t.Errorf("Missing: %v, %v", a, b)
		}
		if a, b := Seed(d.reveals), Seed(other.reveals); a != b {
			t.Errorf("Seed(%v): %s, %s", d.reveals, a, b)
		}
	}
}

func TestARevealWithoutItsCommitmentHasNoEffect(t *testing.T) {
	random := rand.New(rand.NewSource(3))
	for range 200 {
		d := randomDraw(random)
		committed := slices.DeleteFunc(slices.Clone(d.reveals), func(r api.Reveal) bool {
			return !slices.Contains(d.commits, api.Commitment{Party: r.Party, Digest: Commit(r)})
		})
		if a, b := Valid(d.commits, d.reveals), Valid(d.commits, committed); !slices.Equal(a, b) {
			t.Errorf("Valid(%v): %v, %v", d, a, b)
		}
		if a, b := Missing(d.commits, d.reveals), Missing(d.commits, committed); !slices.Equal(a, b) {
			t.Errorf("Missing(%v): %v, %v", d, a, b)
		}
	}
}

func TestValidCases(t *testing.T) {
	r, wrong := api.Reveal{Party: "usa", Salt: "00", Lot: 5}, api.Reveal{Party: "usa", Salt: "00", Lot: 6}
	c, none := api.Commitment{Party: "usa", Digest: Commit(r)}, api.Commitment{Party: "usa"}
	aut := api.Reveal{Party: "aut", Salt: "01", Lot: -7}
	autCommit := api.Commitment{Party: "aut", Digest: Commit(aut)}
	upper := api.Reveal{Party: "USA", Salt: "00", Lot: 5}
	type commits = []api.Commitment
	type reveals = []api.Reveal
	for name, x := range map[string]struct {
		commits commits
		reveals reveals
		valid   reveals
		missing []string
	}{
		"nothing":                           {nil, nil, nil, nil},
		"one party":                         {commits{c}, reveals{r}, reveals{r}, nil},
		"repeated":                          {commits{c, c}, reveals{r, r}, reveals{r}, nil},
		"another reveal before":             {commits{c}, reveals{wrong, r}, reveals{r}, nil},
		"another reveal behind":             {commits{c}, reveals{r, wrong}, reveals{r}, nil},
		"only another reveal":               {commits{c}, reveals{wrong}, nil, []string{"usa"}},
		"no reveal":                         {commits{c, c}, nil, nil, []string{"usa"}},
		"no commitment":                     {nil, reveals{r}, nil, nil},
		"two digests":                       {commits{c, {Party: "usa", Digest: Commit(wrong)}}, reveals{r}, nil, []string{"usa"}},
		"two digests, both revealed":        {commits{c, {Party: "usa", Digest: Commit(wrong)}}, reveals{r, wrong}, nil, []string{"usa"}},
		"two digests, the first one again":  {commits{c, {Party: "usa", Digest: "00"}, c}, reveals{r}, nil, []string{"usa"}},
		"an empty digest":                   {commits{none}, reveals{r}, nil, []string{"usa"}},
		"an empty digest before":            {commits{none, c}, reveals{r}, nil, []string{"usa"}},
		"an empty digest behind":            {commits{c, none}, reveals{r}, nil, []string{"usa"}},
		"an invalid name":                   {commits{{Party: "USA", Digest: Commit(upper)}}, reveals{upper}, nil, nil},
		"the commitment of another party":   {commits{{Party: "aut", Digest: Commit(r)}}, reveals{r}, nil, []string{"aut"}},
		"the commitment of another, copied": {commits{c, {Party: "aut", Digest: Commit(r)}}, reveals{r}, reveals{r}, []string{"aut"}},
		"two parties":                       {commits{c, autCommit}, reveals{r, aut}, reveals{aut, r}, nil},
		"two parties, one missing":          {commits{c, autCommit}, reveals{aut, wrong}, reveals{aut}, []string{"usa"}},
		"two parties, both missing":         {commits{c, autCommit, c}, nil, nil, []string{"aut", "usa"}},
	} {
		if got := Valid(x.commits, x.reveals); !slices.Equal(got, x.valid) {
			t.Errorf("%s: Valid: %v; want %v", name, got, x.valid)
		}
		if got := Missing(x.commits, x.reveals); !slices.Equal(got, x.missing) {
			t.Errorf("%s: Missing: %v; want %v", name, got, x.missing)
		}
	}
}

func TestValidIsNewMemory(t *testing.T) {
	r := api.Reveal{Party: "usa", Salt: "00", Lot: 5}
	reveals := []api.Reveal{r}
	got := Valid([]api.Commitment{{Party: "usa", Digest: Commit(r)}}, reveals)
	got[0] = api.Reveal{}
	if reveals[0] != r {
		t.Error("the result of Valid shares memory with its argument")
	}
}

// definedSeed returns the seed of a list, by the definition.
func definedSeed(list []api.Reveal) string {
	different := map[api.Reveal]bool{}
	for _, r := range list {
		different[r] = true
	}
	var sorted []api.Reveal
	for r := range different {
		sorted = append(sorted, r)
	}
	slices.SortFunc(sorted, func(r, s api.Reveal) int {
		if r.Party != s.Party {
			return cmp.Compare(r.Party, s.Party)
		}
		if r.Salt != s.Salt {
			return cmp.Compare(r.Salt, s.Salt)
		}
		return cmp.Compare(r.Lot, s.Lot)
	})
	value := "l" + text("seed")
	for _, r := range sorted {
		value += "l" + text(r.Party) + text(r.Salt) + integer(r.Lot) + "e"
	}
	return hash(value + "e")
}

func TestSeed(t *testing.T) {
	random := rand.New(rand.NewSource(4))
	all := someReveals()
	found := map[string]bool{}
	for n := range 60 {
		var list []api.Reveal
		for range n {
			list = append(list, all[random.Intn(len(all))])
		}
		list = append(list, list[:n/3]...)
		before := slices.Clone(list)
		got := Seed(list)
		if want := definedSeed(list); got != want {
			t.Errorf("Seed(%v): %s; want %s", list, got, want)
		}
		if found[got] {
			t.Errorf("Seed(%v) is that of another list", list)
		}
		found[got] = true
		if !slices.Equal(list, before) {
			t.Errorf("%v was changed: %v", before, list)
		}
	}
}

func TestKnownSeeds(t *testing.T) {
	usa := api.Reveal{Party: "usa", Salt: "00", Lot: 5}
	many := []api.Reveal{
		usa, {Party: "aut", Salt: "0a", Lot: -10}, {Party: "aut", Salt: "0a", Lot: 10}, {Party: "a", Salt: "ut0a", Lot: 1},
		{Party: "aut", Salt: "0a", Lot: 9}, {Party: "aut", Salt: "0a", Lot: -9}, {Party: "aut", Salt: "01", Lot: 99}, usa,
	}
	for _, c := range []struct {
		list []api.Reveal
		want string
	}{
		{nil, "81a5eb8f8527c58d64418d98a52800dd51bb89496de11f1ec3c2db7b0c150f72"},
		{[]api.Reveal{}, "81a5eb8f8527c58d64418d98a52800dd51bb89496de11f1ec3c2db7b0c150f72"},
		{[]api.Reveal{usa}, "e44aa21f0f3a9056e3bd120c72d6f013605fc08a76cee63a7e2737083f812fd2"},
		{[]api.Reveal{usa, usa}, "e44aa21f0f3a9056e3bd120c72d6f013605fc08a76cee63a7e2737083f812fd2"},
		{many, "4c7a74f37f505b7182c315ff5e6182f71a69b7351ad07910e4934525e8d58a00"},
	} {
		if got := Seed(c.list); got != c.want {
			t.Errorf("Seed(%v): %s; want %s", c.list, got, c.want)
		}
	}
}
