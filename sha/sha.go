// Package sha is layer 1: SHA-256 (FIPS 180-4), and points on a ring that are taken from it.
package sha

// rounds is how many numbers a schedule has, and how many steps a block takes.
const rounds = 64

// blockSize is how many bytes a block has, and lengthSize how many of them hold a message's length.
const (
	blockSize  = 64
	lengthSize = 8
)

// longest is the greatest number of bytes that Pad knows of: more of them have no room as a number of bits.
const longest = 1 << 60

// keys are the constants K, one a round.
var keys = [rounds]uint32{
	0x428a2f98, 0x71374491, 0xb5c0fbcf, 0xe9b5dba5, 0x3956c25b, 0x59f111f1, 0x923f82a4, 0xab1c5ed5,
	0xd807aa98, 0x12835b01, 0x243185be, 0x550c7dc3, 0x72be5d74, 0x80deb1fe, 0x9bdc06a7, 0xc19bf174,
	0xe49b69c1, 0xefbe4786, 0x0fc19dc6, 0x240ca1cc, 0x2de92c6f, 0x4a7484aa, 0x5cb0a9dc, 0x76f988da,
	0x983e5152, 0xa831c66d, 0xb00327c8, 0xbf597fc7, 0xc6e00bf3, 0xd5a79147, 0x06ca6351, 0x14292967,
	0x27b70a85, 0x2e1b2138, 0x4d2c6dfc, 0x53380d13, 0x650a7354, 0x766a0abb, 0x81c2c92e, 0x92722c85,
	0xa2bfe8a1, 0xa81a664b, 0xc24b8b70, 0xc76c51a3, 0xd192e819, 0xd6990624, 0xf40e3585, 0x106aa070,
	0x19a4c116, 0x1e376c08, 0x2748774c, 0x34b0bcb5, 0x391c0cb3, 0x4ed8aa4a, 0x5b9cca4f, 0x682e6ff3,
	0x748f82ee, 0x78a5636f, 0x84c87814, 0x8cc70208, 0x90befffa, 0xa4506ceb, 0xbef9a3f7, 0xc67178f2,
}

// initial is the state ahead of a message's first block.
var initial = [8]uint32{
	0x6a09e667, 0xbb67ae85, 0x3c6ef372, 0xa54ff53a, 0x510e527f, 0x9b05688c, 0x1f83d9ab, 0x5be0cd19,
}

// rot is x rotated right by n bits.
func rot(x uint32, n int) uint32 {
	return x>>n | x<<(32-n)
}

// Expand is a block's schedule: its 16 numbers, and 48 more that are made of them.
func Expand(w [16]uint32) [64]uint32 {
	var out [rounds]uint32
	copy(out[:], w[:])
	for i := range rounds - len(w) {
		t := i + len(w)
		out[t] = small1(out[t-2]) + out[t-7] + small0(out[t-15]) + out[t-16]
	}
	return out
}

// small0 is s0 of the document.
func small0(x uint32) uint32 {
	return rot(x, 7) ^ rot(x, 18) ^ x>>3
}

// small1 is s1 of the document.
func small1(x uint32) uint32 {
	return rot(x, 17) ^ rot(x, 19) ^ x>>10
}

// state is the numbers a, b, c, d, e, f, g and h' of the document, in this order.
type state [8]uint32

// last is the number that a step drops.
func (s state) last() uint32 {
	return s[7]
}

// low mixes the bits of e.
func (s state) low() uint32 {
	e := s[4]
	return rot(e, 6) ^ rot(e, 11) ^ rot(e, 25)
}

// choice takes f's bits where e has ones, and g's where it has none.
func (s state) choice() uint32 {
	e, f, g := s[4], s[5], s[6]
	return e&f ^ ^e&g
}

// high mixes the bits of a.
func (s state) high() uint32 {
	a := s[0]
	return rot(a, 2) ^ rot(a, 13) ^ rot(a, 22)
}

// majority has the bits that at least two of a, b and c have.
func (s state) majority() uint32 {
	a, b, c := s[0], s[1], s[2]
	return a&b ^ a&c ^ b&c
}

// total is the sum of functions of a state's numbers.
func total(s state, of ...func(state) uint32) uint32 {
	var n uint32
	for _, f := range of {
		n += f(s)
	}
	return n
}

// step is the state behind a round, whose number is the sum of its constant and that of the schedule.
func step(s state, number uint32) state {
	first := total(s, state.last, state.low, state.choice) + number
	second := total(s, state.high, state.majority)
	var next state
	copy(next[1:], s[:])
	next[0] = first + second
	next[4] += first
	return next
}

// Compress is the state h behind a block w.
func Compress(h [8]uint32, w [16]uint32) [8]uint32 {
	numbers := Expand(w)
	s := state(h)
	for t := range rounds {
		s = step(s, keys[t]+numbers[t])
	}
	for i := range len(h) {
		h[i] += s[i]
	}
	return h
}

// Pad is what stands behind a message of n bytes.
func Pad(n int) string {
	if n < 0 || uint64(n) > longest {
		return ""
	}
	// The one byte ahead of the zeros counts too, and n is taken modulo a block lest the sum grow too great.
	over := (n%blockSize + 1 + lengthSize) % blockSize
	zeros := (blockSize - over) % blockSize
	out := make([]byte, 1+zeros+lengthSize)
	out[0] = 0x80
	bits := 8 * uint64(n)
	for i := range lengthSize {
		out[1+zeros+i] = byte(bits >> (8 * (lengthSize - 1 - i)))
	}
	return string(out)
}

// hasher is a message that comes part by part: the state behind its full blocks, and the bytes of the next one.
type hasher struct {
	state [8]uint32
	block [blockSize]byte
	used  int
}

// add takes a part. It keeps one block only, since all parts in one text would need their size in memory again.
func (h *hasher) add(part string) {
	for len(part) > 0 {
		n := copy(h.block[h.used:], part)
		part = part[n:]
		h.used += n
		if h.used == blockSize {
			h.state = Compress(h.state, words(h.block))
			h.used = 0
		}
	}
}

// words are the numbers of a block.
func words(block [blockSize]byte) [16]uint32 {
	var w [16]uint32
	for i := range blockSize {
		w[i/4] = w[i/4]<<8 | uint32(block[i])
	}
	return w
}

// Sum is the hash of the parts, one behind the other.
func Sum(parts ...string) [32]byte {
	h := hasher{state: initial}
	size := 0
	for _, part := range parts {
		size += len(part)
		h.add(part)
	}
	h.add(Pad(size))
	var out [32]byte
	for i := range len(out) {
		out[i] = byte(h.state[i/4] >> (24 - 8*(i%4)))
	}
	return out
}

// Point is the first 8 bytes of the parts' hash as a number.
func Point(parts ...string) uint64 {
	sum := Sum(parts...)
	var n uint64
	for i := range 8 {
		n = n<<8 | uint64(sum[i])
	}
	return n
}
