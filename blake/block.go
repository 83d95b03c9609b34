package blake

// blockSize is the number of bytes of a block.
const blockSize = 64

// initial are the constants IV.
var initial = [8]uint32{0x6a09e667, 0xbb67ae85, 0x3c6ef372, 0xa54ff53a, 0x510e527f, 0x9b05688c, 0x1f83d9ab, 0x5be0cd19}

// sigma are the orders in which the rounds take the words of a block.
var sigma = [10][16]uint8{
	{0, 1, 2, 3, 4, 5, 6, 7, 8, 9, 10, 11, 12, 13, 14, 15},
	{14, 10, 4, 8, 9, 15, 13, 6, 1, 12, 0, 2, 11, 7, 5, 3},
	{11, 8, 12, 0, 5, 2, 15, 13, 10, 14, 3, 6, 7, 1, 9, 4},
	{7, 9, 3, 1, 13, 12, 11, 14, 2, 6, 5, 10, 4, 0, 15, 8},
	{9, 0, 5, 7, 2, 4, 10, 15, 14, 1, 11, 12, 6, 8, 3, 13},
	{2, 12, 6, 10, 0, 11, 8, 3, 4, 13, 7, 5, 15, 14, 1, 9},
	{12, 5, 1, 15, 14, 13, 4, 10, 0, 7, 6, 3, 9, 2, 8, 11},
	{13, 11, 7, 14, 12, 1, 3, 9, 5, 0, 15, 4, 8, 6, 2, 10},
	{6, 15, 14, 9, 11, 3, 0, 8, 12, 2, 13, 7, 1, 4, 10, 5},
	{10, 2, 8, 4, 7, 6, 1, 5, 15, 11, 9, 14, 3, 12, 13, 0},
}

// absorb changes the words by the block, which is empty afterwards.
func (s *State) absorb(last bool) {
	s.mixed += uint64(s.filled)
	s.filled = 0
	var v [16]uint32
	for i, w := range initial {
		v[i], v[i+8] = s.words[i], w
	}
	v[12] ^= uint32(s.mixed)
	v[13] ^= uint32(s.mixed >> 32)
	if last {
		v[14] = ^v[14]
	}
	m := blockWords(&s.block)
	for _, order := range sigma {
		round(&v, &m, order)
	}
	for i := range s.words {
		s.words[i] ^= v[i] ^ v[i+8]
	}
}

// blockWords returns the words of a block.
func blockWords(block *[blockSize]byte) [16]uint32 {
	var m [16]uint32
	for i := range m {
		m[i] = uint32(block[4*i]) | uint32(block[4*i+1])<<8 | uint32(block[4*i+2])<<16 | uint32(block[4*i+3])<<24
	}
	return m
}

// round mixes the words of a block into v, in the given order: first into its columns, then into its diagonals.
func round(v, m *[16]uint32, s [16]uint8) {
	v[0], v[4], v[8], v[12] = mix(v[0], v[4], v[8], v[12], m[s[0]], m[s[1]])
	v[1], v[5], v[9], v[13] = mix(v[1], v[5], v[9], v[13], m[s[2]], m[s[3]])
	v[2], v[6], v[10], v[14] = mix(v[2], v[6], v[10], v[14], m[s[4]], m[s[5]])
	v[3], v[7], v[11], v[15] = mix(v[3], v[7], v[11], v[15], m[s[6]], m[s[7]])
	v[0], v[5], v[10], v[15] = mix(v[0], v[5], v[10], v[15], m[s[8]], m[s[9]])
	v[1], v[6], v[11], v[12] = mix(v[1], v[6], v[11], v[12], m[s[10]], m[s[11]])
	v[2], v[7], v[8], v[13] = mix(v[2], v[7], v[8], v[13], m[s[12]], m[s[13]])
	v[3], v[4], v[9], v[14] = mix(v[3], v[4], v[9], v[14], m[s[14]], m[s[15]])
}

// mix returns what the mixing G makes of four words and two words of a block.
func mix(a, b, c, d, x, y uint32) (uint32, uint32, uint32, uint32) {
	a += b + x
	d = rotate(d^a, 16)
	c += d
	b = rotate(b^c, 12)
	a += b + y
	d = rotate(d^a, 8)
	c += d
	b = rotate(b^c, 7)
	return a, b, c, d
}

// rotate returns x rotated right by n bits, from 1 to 31.
func rotate(x uint32, n int) uint32 { return x>>n | x<<(32-n) }
