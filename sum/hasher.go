package sum

import "math/bits"

const (
	blockSize = 64
	lengthAt  = blockSize - 8 // the last block ends with how many bits there were
)

// rounds are FIPS 180-4's (section 4.2.2).
var rounds = [64]uint32{
	0x428a2f98, 0x71374491, 0xb5c0fbcf, 0xe9b5dba5, 0x3956c25b, 0x59f111f1, 0x923f82a4, 0xab1c5ed5,
	0xd807aa98, 0x12835b01, 0x243185be, 0x550c7dc3, 0x72be5d74, 0x80deb1fe, 0x9bdc06a7, 0xc19bf174,
	0xe49b69c1, 0xefbe4786, 0x0fc19dc6, 0x240ca1cc, 0x2de92c6f, 0x4a7484aa, 0x5cb0a9dc, 0x76f988da,
	0x983e5152, 0xa831c66d, 0xb00327c8, 0xbf597fc7, 0xc6e00bf3, 0xd5a79147, 0x06ca6351, 0x14292967,
	0x27b70a85, 0x2e1b2138, 0x4d2c6dfc, 0x53380d13, 0x650a7354, 0x766a0abb, 0x81c2c92e, 0x92722c85,
	0xa2bfe8a1, 0xa81a664b, 0xc24b8b70, 0xc76c51a3, 0xd192e819, 0xd6990624, 0xf40e3585, 0x106aa070,
	0x19a4c116, 0x1e376c08, 0x2748774c, 0x34b0bcb5, 0x391c0cb3, 0x4ed8aa4a, 0x5b9cca4f, 0x682e6ff3,
	0x748f82ee, 0x78a5636f, 0x84c87814, 0x8cc70208, 0x90befffa, 0xa4506ceb, 0xbef9a3f7, 0xc67178f2,
}

// hasher takes bytes as they come, so that the parts need not be laid
// together in new memory.
type hasher struct {
	state [8]uint32
	block [blockSize]byte
	waits int    // how many bytes of block wait for the rest of it
	total uint64 // how many bytes came
}

func begin() hasher {
	return hasher{state: [8]uint32{
		0x6a09e667, 0xbb67ae85, 0x3c6ef372, 0xa54ff53a,
		0x510e527f, 0x9b05688c, 0x1f83d9ab, 0x5be0cd19,
	}}
}

func (x *hasher) write(p []byte) {
	x.total += uint64(len(p))
	for len(p) > 0 {
		n := copy(x.block[x.waits:], p)
		x.waits += n
		p = p[n:]
		if x.waits == blockSize {
			x.mix()
		}
	}
}

// mix works a whole block into the state. The eight words stand apart: in an
// array, long texts took three times as long.
func (x *hasher) mix() {
	w := x.schedule()
	a, b, c, d := x.state[0], x.state[1], x.state[2], x.state[3]
	e, f, g, h := x.state[4], x.state[5], x.state[6], x.state[7]
	for i := range w {
		first := h + turned(e, 6, 11, 25) + (e&f ^ ^e&g) + rounds[i] + w[i]
		second := turned(a, 2, 13, 22) + (a&b ^ a&c ^ b&c)
		a, b, c, d, e, f, g, h = first+second, a, b, c, d+first, e, f, g
	}
	for i, v := range [8]uint32{a, b, c, d, e, f, g, h} {
		x.state[i] += v
	}
	x.waits = 0
}

// schedule spreads the block's sixteen words over all rounds.
func (x *hasher) schedule() [64]uint32 {
	var w [64]uint32
	for i := range 16 {
		b := x.block[4*i : 4*i+4]
		w[i] = uint32(b[0])<<24 | uint32(b[1])<<16 | uint32(b[2])<<8 | uint32(b[3])
	}
	for i := 16; i < len(w); i++ {
		a, b := w[i-15], w[i-2]
		near := bits.RotateLeft32(a, -7) ^ bits.RotateLeft32(a, -18) ^ a>>3
		far := bits.RotateLeft32(b, -17) ^ bits.RotateLeft32(b, -19) ^ b>>10
		w[i] = w[i-16] + near + w[i-7] + far
	}
	return w
}

// turned is x turned right in three ways, put together.
func turned(x uint32, i, j, k int) uint32 {
	return bits.RotateLeft32(x, -i) ^ bits.RotateLeft32(x, -j) ^ bits.RotateLeft32(x, -k)
}

func (x *hasher) end() Sum {
	length := x.total * 8 // told ahead of the padding, which does not count
	x.write([]byte{0x80})
	for x.waits != lengthAt {
		x.write([]byte{0})
	}
	for i := range 8 {
		x.write([]byte{byte(length >> (56 - 8*i))})
	}
	var s Sum
	for i := range s {
		s[i] = byte(x.state[i/4] >> (24 - 8*(i%4)))
	}
	return s
}
