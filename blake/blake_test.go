package blake

import (
	"bytes"
	"math/rand"
	"strings"
	"testing"

	"salchow/api"
)

// pattern returns n bytes that a step and a begin determine.
func pattern(n, step, begin int) []byte {
	b := make([]byte, n)
	for i := range b {
		b[i] = byte((step*i + begin) % 251)
	}
	return b
}

// message and key are what the digests of known are made of.
func message(n int) []byte { return pattern(n, 7, 3) }
func key(n int) []byte     { return pattern(n, 5, 1) }

// digest returns the digest of a message with a key, without a key if n is 0.
func digest(t *testing.T, n int, b []byte) string {
	t.Helper()
	if n == 0 {
		return Sum(b)
	}
	d, e := Keyed(key(n), b)
	if e != api.OK {
		t.Fatalf("Keyed with a key of %d bytes: %d", n, e)
	}
	return d
}

// begun returns a new State with a key, without a key if n is 0.
func begun(t *testing.T, n int) *State {
	t.Helper()
	if n == 0 {
		return New()
	}
	s, e := NewKeyed(key(n))
	if e != api.OK || s == nil {
		t.Fatalf("NewKeyed with a key of %d bytes: %d", n, e)
	}
	return s
}

// known are digests of messages of so many bytes with keys of so many bytes, made with another implementation (Python's hashlib).
var known = []struct {
	length, key int
	hex         string
}{
	{1, 0, "a28ac19d6bcbe2cd1d7de183485768d598e996b07889b9b11f418cb1b4a4fb0d"},
	{63, 0, "0437522bc12fd98cc605c1b2cc63a5bbde63de77adcef8795b94b0012d5069bd"},
	{64, 0, "f702c57f6c760be51ef340442aeca75d4f564703fc3ab07d1d4f68ac9bcc95fb"},
	{65, 0, "5bb54d2022e10d06d83d35bc365d8c1972ad38b80a76d1c790871afd85fffd7e"},
	{127, 0, "6a0b500d9bd045ef368cb6dd65e4de4dc5bcb75f4f0dcc6e0384e6df90cce1bb"},
	{128, 0, "6f7d8f95de6c4e088d588b7091cfb6438f47e7c5f40c62f8264f8d873ea9cb80"},
	{129, 0, "6cb140d40f925727b9c8c1ce5bbacc9fd3d8012aa52f265dc202ba2aea161485"},
	{1000, 0, "d3e9062f2fe816b3125a7345d293a34439e4bdfaeb7e39dba83d66230cae5f0b"},
	{65537, 0, "adff5a7c353e4940525da4a01ff26b55c0f95688f47307126d2549983af615a9"},
	{0, 1, "29f9691fe445d12f36b171eb231c99a00f62c0ba9c618b5ab67535c24eab67fe"},
	{1, 1, "871ef1601ce9db2cb4b275be0b96da969e21945732819226e2b35711aa8053a6"},
	{64, 1, "05d9d0649681a61bb769b411f91190fabdb08718316303e994c6a89baa2248d5"},
	{65, 1, "21f3a00b121581c1d595ad473206fa03139c17bba574908066e7fde33918dce5"},
	{128, 1, "aa34f2114692a0f37be6e54ebec43ec0e561b0219f92c4a937ff3dfaf4c9e10d"},
	{0, 2, "e08f98a66b9a72dcf0b09554283906274f982c48c8af78661f308fa564161120"},
	{1, 2, "0bde2e7f6252ef2346d477b2543e890842cd3556f81e18ceb965a7d4755df903"},
	{64, 2, "25ba20eb52be2b70bea9fbbf93d4752f6ac9735aedfcbea27ca119930fee23af"},
	{65, 2, "782fde1cb00d63cc4c7b38681b654abdfdb07ffbb4ed00046c2fc26c6c2ff45b"},
	{128, 2, "790c2920dfbf8107699bdc1d0991f1a987e77a497aac1b9a69b29535935cf0ab"},
	{0, 16, "ae44128ae8fe748dd963d33089151018fec1f6d9d571e787ef0fe06e3d781b6b"},
	{1, 16, "54b5f53f8f874dc8fca635b220825090497164a93d2385ed687df3b742802979"},
	{64, 16, "91872481dbc469421fa8107d00d23f0dcf522f7329c0b88fbe265650b3dfda69"},
	{65, 16, "3a3be4fec1c5431f0c977f5dfc410928e3b627ebe8e740c38affdb8a94c8804b"},
	{128, 16, "72b021a2a09e2c85de8054b59d2c3f7a7cdc6c7ff6918a84cecd7a8c69c6eb17"},
	{0, 31, "b1518b90c43189a40407cae107b16ef6fd160827868ef640d5ad0e0099844bf8"},
	{1, 31, "c9acd8704a4549e7cccda3c091b3008c68bc010f960c353ecbd91cbbda98cd2f"},
	{64, 31, "6cdc5eaf0caec6bf00bdbc89b37a071a765a2c8195c16d700706b038fc920c01"},
	{65, 31, "787ef80c3b15a3f36df1d0d2a79118a7563114ccfc8be21c39d238afd62b75fc"},
	{128, 31, "ef1794f30b491820564f06cafa94457c3731379cf956d43532e7b1c84b6e86ee"},
	{0, 32, "743beb24e344bbeecc7f094f92696f636f8e7ba84285d9d588a41d2873737d37"},
	{1, 32, "6ac12a78abd6b054948a63919c261a868d3a5a81277f872cbad9ae50288ce760"},
	{64, 32, "6053a657aceced4dc79f515a2db91508e1fddfb61a000c9dbcda16931d34c2b4"},
	{65, 32, "6952c6ca3a5ee0d6831886af729c2b0ab366dd19396ff9da52f86cb8857279be"},
	{128, 32, "16fb20a7e9b91538b31496ecca389777ef420a953648e88eeb283968cce6a074"},
}

func TestKnownDigests(t *testing.T) {
	for _, c := range known {
		if got := Hex(digest(t, c.key, message(c.length))); got != c.hex {
			t.Errorf("%d bytes with a key of %d bytes: %s", c.length, c.key, got)
		}
	}
}

func TestExamples(t *testing.T) {
	for text, want := range map[string]string{
		"":    "69217a3079908094e11121d042354a7c1f55b6482ca1a51e1b250dfd1ed0eef9",
		"abc": "508c5e8c327c14e2e1a72ba34eeb452f37458b209ed63a294d999b4c86675982",
	} {
		if got := Hex(Sum([]byte(text))); got != want {
			t.Errorf("Sum of %q: %s", text, got)
		}
	}
	d, e := Keyed(pattern(32, 1, 0), nil)
	if got := Hex(d); e != api.OK || got != "48a8997da407876b3d79c0d92325ad3b89cbb754d86ab71aee047ad345fd2c49" {
		t.Errorf("Keyed: %s, %d", got, e)
	}
	if Sum(nil) != Sum([]byte{}) || New().Sum() != Sum(nil) {
		t.Error("the digest of no bytes")
	}
}

// TestAllDigests hashes the digests of messages of all lengths with keys of all lengths; another implementation has made the same.
func TestAllDigests(t *testing.T) {
	all := New()
	for k := range 33 {
		for n := range 300 {
			d := digest(t, k, message(n))
			if len(d) != Size {
				t.Fatalf("a digest of %d bytes", len(d))
			}
			all.Write([]byte(d))
		}
	}
	if got := Hex(all.Sum()); got != "478e846ca46526da02f2fdff03003628789cbdc9f8bb65dc85c0cacab798ea56" || all.Len() != 33*300*Size {
		t.Errorf("%s of %d bytes", got, all.Len())
	}
}

func TestKeysOfOtherLengths(t *testing.T) {
	for _, n := range []int{0, 33, 34, 64, 256, 288, 1000} {
		if d, e := Keyed(make([]byte, n), message(5)); d != "" || e != api.ErrRange {
			t.Errorf("Keyed with a key of %d bytes: %q, %d", n, d, e)
		}
		if s, e := NewKeyed(make([]byte, n)); s != nil || e != api.ErrRange {
			t.Errorf("NewKeyed with a key of %d bytes: %v, %d", n, s, e)
		}
	}
	if d, e := Keyed(nil, nil); d != "" || e != api.ErrRange {
		t.Errorf("Keyed without a key: %q, %d", d, e)
	}
	if s, e := NewKeyed(nil); s != nil || e != api.ErrRange {
		t.Errorf("NewKeyed without a key: %v, %d", s, e)
	}
}

func TestAKeyFilledUpIsAnotherKey(t *testing.T) {
	long, _ := Keyed([]byte{1, 0}, nil)
	short, _ := Keyed([]byte{1}, nil)
	if long == short || short == Sum(nil) || short == Sum(append([]byte{1}, make([]byte, 63)...)) {
		t.Error("the length of a key does not count")
	}
}

func TestWritesInTwoPieces(t *testing.T) {
	for _, k := range []int{0, 1, 32} {
		for n := range 200 {
			want := digest(t, k, message(n))
			for at := range n + 1 {
				s := begun(t, k)
				s.Write(message(n)[:at])
				if s.Len() != at {
					t.Fatalf("Len after %d bytes: %d", at, s.Len())
				}
				s.Write(message(n)[at:])
				if s.Sum() != want || s.Len() != n {
					t.Fatalf("key of %d bytes: %d bytes, written in pieces of %d and %d", k, n, at, n-at)
				}
			}
		}
	}
}

func TestWritesInManyPieces(t *testing.T) {
	random := rand.New(rand.NewSource(1))
	for range 300 {
		k, b := random.Intn(33), message(random.Intn(700))
		s := begun(t, k)
		for at := 0; at < len(b); {
			end := min(at+random.Intn(1+random.Intn(200)), len(b))
			s.Write(b[at:end])
			at = end
			if s.Len() != at || s.Sum() != digest(t, k, b[:at]) {
				t.Fatalf("key of %d bytes: after %d bytes", k, at)
			}
		}
		s.Write(nil)
		if s.Len() != len(b) || s.Sum() != digest(t, k, b) {
			t.Fatalf("key of %d bytes: %d bytes", k, len(b))
		}
	}
}

func TestSumChangesNothing(t *testing.T) {
	for _, k := range []int{0, 7, 32} {
		for _, n := range []int{0, 1, 63, 64, 65, 128} {
			s := begun(t, k)
			s.Write(message(n))
			for range 3 {
				if s.Sum() != digest(t, k, message(n)) || s.Len() != n {
					t.Errorf("key of %d bytes: Sum of %d bytes, again", k, n)
				}
			}
			s.Write([]byte("more"))
			if s.Sum() != digest(t, k, append(message(n), "more"...)) || s.Len() != n+4 {
				t.Errorf("key of %d bytes: after Sum of %d bytes", k, n)
			}
		}
	}
}

func TestANewStateHasNoBytes(t *testing.T) {
	for _, k := range []int{0, 1, 32} {
		s := begun(t, k)
		if s.Len() != 0 || s.Sum() != digest(t, k, nil) {
			t.Errorf("key of %d bytes: %d bytes", k, s.Len())
		}
	}
}

func TestArgumentsAreNeitherKeptNorChanged(t *testing.T) {
	for _, n := range []int{1, 64, 100, 128} {
		k, b := key(20), message(n)
		s, _ := NewKeyed(k)
		s.Write(b)
		sum := s.Sum()
		other, _ := Keyed(k, b)
		if Sum(b) == "" || !bytes.Equal(k, key(20)) || !bytes.Equal(b, message(n)) {
			t.Errorf("%d bytes: an argument was changed", n)
		}
		clear(k)
		clear(b)
		if s.Sum() != sum || other != sum {
			t.Errorf("%d bytes: an argument was kept", n)
		}
	}
}

func TestClone(t *testing.T) {
	for _, k := range []int{0, 9, 32} {
		for _, n := range []int{0, 1, 63, 64, 65, 127, 128, 200} {
			s := begun(t, k)
			s.Write(message(n))
			c := s.Clone()
			if c == s || c.Len() != n || c.Sum() != digest(t, k, message(n)) {
				t.Fatalf("key of %d bytes: a clone after %d bytes", k, n)
			}
			first, second := bytes.Repeat([]byte{1}, 70), bytes.Repeat([]byte{2}, 3)
			s.Write(first)
			if c.Len() != n || c.Sum() != digest(t, k, message(n)) {
				t.Errorf("key of %d bytes: a clone after %d bytes changes with its origin", k, n)
			}
			c.Write(second)
			if s.Len() != n+70 || s.Sum() != digest(t, k, append(message(n), first...)) {
				t.Errorf("key of %d bytes: a state of %d bytes changes with its clone", k, n)
			}
			if c.Len() != n+3 || c.Sum() != digest(t, k, append(message(n), second...)) {
				t.Errorf("key of %d bytes: a clone after %d bytes goes on", k, n)
			}
		}
	}
}

// TestTheHighWordOfTheCount goes on from the state of 2^32 zero bytes, whose words this package has computed once; the digest is from another implementation, which has hashed all of the bytes.
func TestTheHighWordOfTheCount(t *testing.T) {
	s := &State{
		words:  [8]uint32{0x89454a0e, 0x28664702, 0x4a931f51, 0xec24d075, 0xef8d4275, 0xde6b8a90, 0x3fbf9d41, 0xc52eb65d},
		filled: blockSize,
		mixed:  1<<32 - blockSize,
	}
	s.Write(make([]byte, 65))
	if got := Hex(s.Sum()); got != "332febcd880263ee5557566200d3f4f967198ab2e513e87427fd9ec0b88b314c" {
		t.Errorf("2^32 + 65 bytes: %s", got)
	}
}

func TestDigestsDiffer(t *testing.T) {
	seen := map[string]int{}
	for n := range 200 { // zeros that fill a block up are not zeros of the message
		d := Sum(make([]byte, n))
		if other, found := seen[d]; found {
			t.Errorf("%d and %d zeros have one digest", n, other)
		}
		seen[d] = n
	}
	if Sum([]byte(strings.Repeat("a", 64))) == Sum([]byte(strings.Repeat("a", 63)+"b")) {
		t.Error("the last byte does not count")
	}
}
