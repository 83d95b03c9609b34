package lots

import (
	"math"

	"salchow/api"
	"salchow/blake"
	"salchow/encode"
)

// blockSize is the number of numbers of a block.
const blockSize = 4

// maxBound is the greatest bound of a uniform number.
const maxBound = 1000000000

// Stream is a stream of numbers that a seed determines.
type Stream struct {
	seed  string
	block [blockSize]uint64 // the block of the number that was taken last
	used  int
}

// NewStream returns the stream of a seed, at its beginning.
func NewStream(seed string) *Stream { return &Stream{seed: seed} }

// Next returns the next number of 64 bits.
func (s *Stream) Next() uint64 {
	at := s.used % blockSize
	if at == 0 {
		s.block = drawn(s.seed, s.used/blockSize)
	}
	s.used++
	return s.block[at]
}

// drawn returns the numbers of a block of a seed.
func drawn(seed string, index int) [blockSize]uint64 {
	var w encode.Writer
	w.Open()
	w.Text("draw")
	w.Text(seed)
	w.Int(int64(index))
	w.Close()
	sum := blake.Sum([]byte(w.Data()))
	var block [blockSize]uint64
	for i := range len(sum) {
		block[i/8] = block[i/8]<<8 | uint64(sum[i])
	}
	return block
}

// Uniform returns a number from 0 to n-1, by rejection.
func (s *Stream) Uniform(n int) (int, api.Errno) {
	if n < 1 || n > maxBound {
		return 0, api.ErrArgument
	}
	bound := uint64(n)
	// This is 2^64 mod n, as -bound is 2^64 - n: so many numbers at the top belong to no whole multiple of n.
	surplus := -bound % bound
	for {
		if x := s.Next(); x <= math.MaxUint64-surplus {
			return int(x % bound), api.OK
		}
	}
}

// Used returns how many numbers of 64 bits were taken.
func (s *Stream) Used() int { return s.used }
