// Package digest is layer 1: SHA-256. See shared/doc/01-digest.md.
package digest

import (
	"math/bits"
	"strings"

	"cabal/api"
)

// blockSize is how many bytes are compressed at once.
const blockSize = 64

// start is the state ahead of all blocks.
var start = [8]uint32{
	0x6a09e667, 0xbb67ae85, 0x3c6ef372, 0xa54ff53a, 0x510e527f, 0x9b05688c, 0x1f83d9ab, 0x5be0cd19,
}

// roundWords are k0 to k63.
var roundWords = [64]uint32{
	0x428a2f98, 0x71374491, 0xb5c0fbcf, 0xe9b5dba5, 0x3956c25b, 0x59f111f1, 0x923f82a4, 0xab1c5ed5,
	0xd807aa98, 0x12835b01, 0x243185be, 0x550c7dc3, 0x72be5d74, 0x80deb1fe, 0x9bdc06a7, 0xc19bf174,
	0xe49b69c1, 0xefbe4786, 0x0fc19dc6, 0x240ca1cc, 0x2de92c6f, 0x4a7484aa, 0x5cb0a9dc, 0x76f988da,
	0x983e5152, 0xa831c66d, 0xb00327c8, 0xbf597fc7, 0xc6e00bf3, 0xd5a79147, 0x06ca6351, 0x14292967,
	0x27b70a85, 0x2e1b2138, 0x4d2c6dfc, 0x53380d13, 0x650a7354, 0x766a0abb, 0x81c2c92e, 0x92722c85,
	0xa2bfe8a1, 0xa81a664b, 0xc24b8b70, 0xc76c51a3, 0xd192e819, 0xd6990624, 0xf40e3585, 0x106aa070,
	0x19a4c116, 0x1e376c08, 0x2748774c, 0x34b0bcb5, 0x391c0cb3, 0x4ed8aa4a, 0x5b9cca4f, 0x682e6ff3,
	0x748f82ee, 0x78a5636f, 0x84c87814, 0x8cc70208, 0x90befffa, 0xa4506ceb, 0xbef9a3f7, 0xc67178f2,
}

// Sum is the digest of some parts.
func Sum(parts ...string) api.Key {
	var h Hash
	h.Write(parts...)
	return h.Sum()
}

// Hash is a digest under way. Its state means nothing till a block was compressed, so that the zero value is a hash without input.
type Hash struct {
	state [8]uint32
	rest  [blockSize]byte
	size  uint64
}

// Write takes parts.
func (h *Hash) Write(parts ...string) {
	if h == nil {
		return
	}
	for _, part := range parts {
		for len(part) > 0 {
			n := copy(h.rest[h.size%blockSize:], part)
			part = part[n:]
			h.size += uint64(n)
			if h.size%blockSize == 0 {
				h.compress()
			}
		}
	}
}

// Len is how many bytes were taken.
func (h *Hash) Len() uint64 {
	if h == nil {
		return 0
	}
	return h.size
}

// Sum is the digest of what was taken.
func (h *Hash) Sum() api.Key {
	var padded Hash
	if h != nil {
		padded = *h
	}
	padded.pad()
	var k api.Key
	for i, word := range padded.state {
		putWord(k[4*i:], word)
	}
	return k
}

// pad fills the last block.
func (h *Hash) pad() {
	size := h.size
	zeros := (2*blockSize - 9 - size%blockSize) % blockSize
	var length [8]byte
	putWord(length[:4], uint32(size*8>>32))
	putWord(length[4:], uint32(size*8))
	h.Write("\x80", strings.Repeat("\x00", int(zeros)), string(length[:]))
}

// compress takes the block that was just filled.
func (h *Hash) compress() {
	if h.size == blockSize {
		h.state = start
	}
	words := h.words()
	s := h.state
	for i, w := range words {
		e := s[4]
		t := s[7] + sigma(e, 6, 11, 25) + (e&s[5] ^ ^e&s[6]) + roundWords[i] + w
		u := sigma(s[0], 2, 13, 22) + (s[0]&s[1] ^ s[0]&s[2] ^ s[1]&s[2])
		s = [8]uint32{t + u, s[0], s[1], s[2], s[3] + t, s[4], s[5], s[6]}
	}
	for i, word := range s {
		h.state[i] += word
	}
}

// words are w0 to w63 of the block.
func (h *Hash) words() [64]uint32 {
	var w [64]uint32
	for i := range 16 {
		b := h.rest[4*i:]
		w[i] = uint32(b[0])<<24 | uint32(b[1])<<16 | uint32(b[2])<<8 | uint32(b[3])
	}
	for i := 16; i < len(w); i++ {
		w[i] = spread(w[i-2], 17, 19, 10) + w[i-7] + spread(w[i-15], 7, 18, 3) + w[i-16]
	}
	return w
}

// sigma is S0 or S1: three rotations to the right.
func sigma(x uint32, a, b, c int) uint32 {
	return bits.RotateLeft32(x, -a) ^ bits.RotateLeft32(x, -b) ^ bits.RotateLeft32(x, -c)
}

// spread is s0 or s1: two rotations and a shift to the right.
func spread(x uint32, a, b, shift int) uint32 {
	return bits.RotateLeft32(x, -a) ^ bits.RotateLeft32(x, -b) ^ x>>shift
}

func putWord(to []byte, word uint32) {
	to[0], to[1], to[2], to[3] = byte(word>>24), byte(word>>16), byte(word>>8), byte(word)
}
