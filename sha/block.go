package sha

import "math/bits"

const (
	digestSize = 32
	blockSize  = 64
	lengthSize = 8
	rounds     = 64
)

type block [blockSize]byte

// first is the state that a digest begins with: of the first 8 primes' square roots 32 bits behind the point.
var first = [8]uint32{
	0x6a09e667, 0xbb67ae85, 0x3c6ef372, 0xa54ff53a, 0x510e527f, 0x9b05688c, 0x1f83d9ab, 0x5be0cd19,
}

// words are added in the rounds: of the first 64 primes' cube roots 32 bits behind the point.
var words = [rounds]uint32{
	0x428a2f98, 0x71374491, 0xb5c0fbcf, 0xe9b5dba5, 0x3956c25b, 0x59f111f1, 0x923f82a4, 0xab1c5ed5,
	0xd807aa98, 0x12835b01, 0x243185be, 0x550c7dc3, 0x72be5d74, 0x80deb1fe, 0x9bdc06a7, 0xc19bf174,
	0xe49b69c1, 0xefbe4786, 0x0fc19dc6, 0x240ca1cc, 0x2de92c6f, 0x4a7484aa, 0x5cb0a9dc, 0x76f988da,
	0x983e5152, 0xa831c66d, 0xb00327c8, 0xbf597fc7, 0xc6e00bf3, 0xd5a79147, 0x06ca6351, 0x14292967,
	0x27b70a85, 0x2e1b2138, 0x4d2c6dfc, 0x53380d13, 0x650a7354, 0x766a0abb, 0x81c2c92e, 0x92722c85,
	0xa2bfe8a1, 0xa81a664b, 0xc24b8b70, 0xc76c51a3, 0xd192e819, 0xd6990624, 0xf40e3585, 0x106aa070,
	0x19a4c116, 0x1e376c08, 0x2748774c, 0x34b0bcb5, 0x391c0cb3, 0x4ed8aa4a, 0x5b9cca4f, 0x682e6ff3,
	0x748f82ee, 0x78a5636f, 0x84c87814, 0x8cc70208, 0x90befffa, 0xa4506ceb, 0xbef9a3f7, 0xc67178f2,
}

// mixLast mixes in what no whole block is left of, a bit that ends it, and how many bits were summed in all.
func mixLast(state *[8]uint32, rest string, length uint64) {
	var b block
	n := copy(b[:], rest)
	b[n] = 0x80
	if n+1 > blockSize-lengthSize {
		mix(state, &b)
		b = block{}
	}
	for i := range lengthSize {
		b[blockSize-1-i] = byte(length >> (8 * i))
	}
	mix(state, &b)
}

// mix keeps the state's words in variables of their own: an array that is shifted round by round takes twice as long.
func mix(state *[8]uint32, from *block) {
	stretched := schedule(from)
	a, b, c, d, e, f, g, h := state[0], state[1], state[2], state[3], state[4], state[5], state[6], state[7]
	for i := range rounds {
		added := h + highSum(e) + (e&f ^ ^e&g) + words[i] + stretched[i]
		total := added + lowSum(a) + (a&b ^ a&c ^ b&c)
		a, b, c, d, e, f, g, h = total, a, b, c, d+added, e, f, g
	}
	for i, word := range [8]uint32{a, b, c, d, e, f, g, h} {
		state[i] += word
	}
}

func lowSum(a uint32) uint32 {
	return bits.RotateLeft32(a, -2) ^ bits.RotateLeft32(a, -13) ^ bits.RotateLeft32(a, -22)
}

func highSum(e uint32) uint32 {
	return bits.RotateLeft32(e, -6) ^ bits.RotateLeft32(e, -11) ^ bits.RotateLeft32(e, -25)
}

// schedule stretches a block to a word for each round.
func schedule(b *block) [rounds]uint32 {
	var w [rounds]uint32
	for i := range 16 {
		w[i] = uint32(b[4*i])<<24 | uint32(b[4*i+1])<<16 | uint32(b[4*i+2])<<8 | uint32(b[4*i+3])
	}
	for i := 16; i < rounds; i++ {
		x, y := w[i-15], w[i-2]
		low := bits.RotateLeft32(x, -7) ^ bits.RotateLeft32(x, -18) ^ x>>3
		high := bits.RotateLeft32(y, -17) ^ bits.RotateLeft32(y, -19) ^ y>>10
		w[i] = w[i-16] + low + w[i-7] + high
	}
	return w
}

func digest(state *[8]uint32) string {
	var out [digestSize]byte
	for i, word := range state {
		for j := range 4 {
			out[4*i+j] = byte(word >> (24 - 8*j))
		}
	}
	return string(out[:])
}
