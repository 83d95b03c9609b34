package lots

import (
	"encoding/binary"
	"math"
	"math/big"
	"math/rand"
	"slices"
	"strconv"
	"testing"

	"salchow/api"
	"salchow/blake"
)

// definedNumbers returns the first numbers of the stream of a seed, by the definition.
func definedNumbers(seed string, count int) []uint64 {
	var list []uint64
	for i := int64(0); len(list) < count; i++ {
		sum := []byte(blake.Sum([]byte("l" + text("draw") + text(seed) + integer(i) + "e")))
		for at := 0; at < len(sum); at += 8 {
			list = append(list, binary.BigEndian.Uint64(sum[at:]))
		}
	}
	return list[:count]
}

func TestStream(t *testing.T) {
	for _, seed := range append(strange, Seed(nil)) {
		s := NewStream(seed)
		if s.Used() != 0 {
			t.Errorf("%q: %d numbers were used of a new stream", seed, s.Used())
		}
		// The indices of so many blocks have one, two and three digits.
		for i, want := range definedNumbers(seed, 410) {
			if got := s.Next(); got != want || s.Used() != i+1 {
				t.Fatalf("%q: number %d: %d, %d used; want %d", seed, i, got, s.Used(), want)
			}
		}
	}
}

func TestKnownNumbers(t *testing.T) {
	for seed, list := range map[string][]uint64{
		"":         {0x942badd53ac565f3, 0x5b19de35ba088539, 0xfe6ca9d06db4cdcc, 0x3caac8a9436d1e14, 0x6b6eba4f2ff9c481, 0xb79da238bf33f70e, 0x888f80a4c41a18d7, 0xf31d4641fc739208, 0x270ab671a270874b},
		"a":        {0x23b3926af96f0b86, 0x9b306658d4e9cbe1, 0x34797e55ede895b8, 0x30759b656ba0c6c6, 0xbbca3f14a95f967e, 0xfa6a653bc1389bd9, 0x97717dac81db8d50, 0xc8fad97675645889, 0x63676852334190d8},
		"\xff\x00": {0x947318bb86240249, 0x4f540b33653b4343, 0x565e1573ace9b94, 0x8dd0de1bc20a011b, 0x9577afaa06e546d8, 0x5f0c18443e8d72c1, 0x184c4f53aa2cf9ec, 0x4e7909bde8187c14, 0x15635c61b4ec8b6e},
	} {
		s := NewStream(seed)
		for i, want := range list {
			if got := s.Next(); got != want {
				t.Errorf("%q: number %d: %x; want %x", seed, i, got, want)
			}
		}
	}
	s := NewStream("a")
	want := []int{2, 0, 56, 995388614, 206129, 5, 0, 0, 869564899}
	for i, n := range []int{6, 1, 100, 1000000000, 1000003, 7, 2, 3, 999999937} {
		if got, e := s.Uniform(n); got != want[i] || e != api.OK || s.Used() != i+1 {
			t.Errorf("Uniform(%d): %d, %d, %d used; want %d", n, got, e, s.Used(), want[i])
		}
	}
}

func TestStreamsAreIndependent(t *testing.T) {
	want := definedNumbers("a", 20)
	s, other, same := NewStream("a"), NewStream("b"), NewStream("a")
	for range 7 {
		same.Next()
	}
	for i := range 9 {
		if got := s.Next(); got != want[i] {
			t.Errorf("number %d: %d; want %d", i, got, want[i])
		}
		other.Next()
	}
	if got := same.Next(); got != want[7] || s.Used() != 9 || same.Used() != 8 || other.Used() != 9 {
		t.Errorf("number 7: %d; %d, %d and %d are used", got, s.Used(), same.Used(), other.Used())
	}
}

// definedUniform returns the uniform number below n of a list of numbers, and how many are used, by the definition.
func definedUniform(list []uint64, n int) (int, int) {
	all := new(big.Int).Lsh(big.NewInt(1), 64)
	bound := big.NewInt(int64(n))
	multiple := new(big.Int).Div(all, bound)
	multiple.Mul(multiple, bound)
	for i, x := range list {
		if number := new(big.Int).SetUint64(x); number.Cmp(multiple) < 0 {
			return int(number.Mod(number, bound).Int64()), i + 1
		}
	}
	return -1, -1
}

// bounds are bounds of uniform numbers, the least and the greatest one included.
func bounds() []int {
	random := rand.New(rand.NewSource(5))
	list := []int{1, 2, 3, 4, 5, 7, 10, 255, 256, 257, 641, 1000, 65535, 65536, 65537, 1 << 29, 999999995, 999999999, 1000000000}
	for range 200 {
		list = append(list, 1+random.Intn(1000000000))
	}
	return list
}

func TestUniform(t *testing.T) {
	s := NewStream("uniform")
	list := definedNumbers("uniform", 2000)
	for _, n := range bounds() {
		want, taken := definedUniform(list[s.Used():], n)
		before := s.Used()
		if got, e := s.Uniform(n); got != want || e != api.OK || s.Used() != before+taken {
			t.Errorf("Uniform(%d): %d, %d, from %d to %d; want %d", n, got, e, before, s.Used(), want)
		}
	}
}

// Numbers that are rejected are rare, so they are put into a block.
func TestUniformRejects(t *testing.T) {
	for _, n := range bounds() {
		surplus := new(big.Int).Mod(new(big.Int).Lsh(big.NewInt(1), 64), big.NewInt(int64(n))).Uint64()
		rejected := -surplus // the least number that is rejected, or 0 if there is none
		for _, list := range [][blockSize]uint64{
			{0, rejected - 1, 5, 6}, {0, rejected, 1, 2}, {0, math.MaxUint64, 7, 8}, {0, rejected, math.MaxUint64, rejected + 3},
			{0, math.MaxUint64, math.MaxUint64, 3000000000}, {0, math.MaxUint64 - 1, 1 << 63, 0}, {0, rejected - 2, 0, 0},
		} {
			s := &Stream{seed: "a", block: list, used: 1}
			want, taken := definedUniform(append(list[1:], definedNumbers("a", 8)[4:]...), n)
			if got, e := s.Uniform(n); got != want || e != api.OK || s.Used() != 1+taken {
				t.Errorf("Uniform(%d) of %d: %d, %d, %d used; want %d, %d", n, list, got, e, s.Used(), want, 1+taken)
			}
		}
	}
	s := &Stream{block: [blockSize]uint64{0, math.MaxUint64, math.MaxUint64 - 1, 9}, used: 1}
	if got, e := s.Uniform(3); got != 2 || e != api.OK || s.Used() != 3 {
		t.Errorf("Uniform(3): %d, %d, %d used", got, e, s.Used())
	}
}

// These seeds were searched for: each has a number among the 10^9 greatest ones near its begin, and the results are those of another implementation (in Python).
func TestUniformRejectsNumbersOfStreams(t *testing.T) {
	for _, c := range []struct {
		seed    string
		skipped int
		n       int
		want    int
		used    int
	}{
		{"22989767292", 3, 245502351, 178780007, 5}, // 2^64 - 235149712 is the least number that is rejected
		{"22989767292", 3, 245502350, 15048404, 4},
		{"30818196334", 2, 777187213, 777187212, 3}, // 2^64 - 142028200 is the greatest number that is not rejected
		{"63083047650", 0, 999999995, 881231940, 2},
		{"63083047650", 0, 1000000000, 805341864, 1},
	} {
		s := NewStream(c.seed)
		for range c.skipped {
			s.Next()
		}
		if got, e := s.Uniform(c.n); got != c.want || e != api.OK || s.Used() != c.used {
			t.Errorf("%s: Uniform(%d): %d, %d, %d used; want %d, %d", c.seed, c.n, got, e, s.Used(), c.want, c.used)
		}
	}
}

func TestUniformBelowPowersOfTwoTakesOneNumber(t *testing.T) {
	for k := range 30 {
		s := &Stream{block: [blockSize]uint64{0, math.MaxUint64, 0, 0}, used: 1}
		if got, e := s.Uniform(1 << k); got != 1<<k-1 || e != api.OK || s.Used() != 2 {
			t.Errorf("Uniform(2^%d): %d, %d, %d used", k, got, e, s.Used())
		}
	}
}

func TestUniformErrors(t *testing.T) {
	s := NewStream("a")
	want := definedNumbers("a", 12)
	for i, n := range []int{0, -1, 1000000001, math.MinInt, math.MaxInt, -1000000000, math.MinInt32, math.MaxInt32, 1 << 30, 1 << 32, 1 << 40, -3} {
		if got, e := s.Uniform(n); got != 0 || e != api.ErrArgument || s.Used() != i {
			t.Errorf("Uniform(%d): %d, %d, %d used", n, got, e, s.Used())
		}
		if x := s.Next(); x != want[i] {
			t.Errorf("an error of Uniform uses a number: %d; want %d", x, want[i])
		}
	}
}

// definedPermutation returns the permutation of a seed, by the definition.
func definedPermutation(seed string, n int) []int {
	var p []int
	for i := range n {
		p = append(p, i)
	}
	list := definedNumbers(seed, 2*n+8)
	for i := n - 1; i >= 1; i-- {
		k, taken := definedUniform(list, i+1)
		list = list[taken:]
		p[i], p[k] = p[k], p[i]
	}
	return p
}

func TestPermutation(t *testing.T) {
	for n := range 60 {
		for _, seed := range []string{"", "a", "seed " + strconv.Itoa(n), "\xff"} {
			if got, e := Permutation(seed, n); e != api.OK || !slices.Equal(got, definedPermutation(seed, n)) {
				t.Errorf("Permutation(%q, %d): %v, %d", seed, n, got, e)
			}
		}
	}
	for _, n := range []int{199, 200, 256, 999, 1000} {
		if got, e := Permutation(Seed(nil), n); e != api.OK || !slices.Equal(got, definedPermutation(Seed(nil), n)) {
			t.Errorf("Permutation(.., %d): %v, %d", n, got, e)
		}
	}
}

func TestKnownPermutations(t *testing.T) {
	for _, c := range []struct {
		seed string
		want []int
	}{
		{"a", []int{1, 5, 3, 7, 2, 8, 4, 0, 9, 6}}, {"", []int{6, 2, 8, 3, 9, 5, 0, 4, 7, 1}}, {"salchow", []int{0, 2, 4, 3, 1}}, {"any", []int{0}}, {"any", nil},
	} {
		if got, e := Permutation(c.seed, len(c.want)); e != api.OK || !slices.Equal(got, c.want) {
			t.Errorf("Permutation(%q, %d): %v, %d; want %v", c.seed, len(c.want), got, e, c.want)
		}
	}
	p, e := Permutation("a", MaxOrder)
	if e != api.OK || len(p) != 1000 || !slices.Equal(p[:6], []int{838, 549, 255, 332, 749, 139}) || !slices.Equal(p[994:], []int{632, 922, 659, 72, 456, 86}) {
		t.Errorf("Permutation(\"a\", 1000): %v, %d", p, e)
	}
}

func TestPermutationErrors(t *testing.T) {
	for _, n := range []int{-1, 1001, math.MinInt, math.MaxInt} {
		if got, e := Permutation("a", n); e != api.ErrArgument || len(got) != 0 {
			t.Errorf("Permutation(\"a\", %d): %v, %d", n, got, e)
		}
	}
}

func TestAllPermutationsOccur(t *testing.T) {
	found := map[int64]int{}
	for i := range 600 {
		p, _ := Permutation(strconv.Itoa(i), 3)
		rank, e := Rank(p)
		if e != api.OK {
			t.Fatalf("%v: %d", p, e)
		}
		found[rank]++
	}
	for rank := range int64(6) {
		if found[rank] < 60 || found[rank] > 140 {
			t.Errorf("the permutation %d occurs %d times of 600", rank, found[rank])
		}
	}
}
