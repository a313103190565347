package sha

import (
	"bytes"
	"crypto/sha256"
	"encoding/binary"
	"encoding/hex"
	"math"
	"math/rand"
	"strings"
	"testing"
)

// text is n bytes that differ from one another, and from one seed to the next.
func text(seed int64, n int) string {
	b := make([]byte, n)
	rand.New(rand.NewSource(seed)).Read(b)
	return string(b)
}

func numbers16(r *rand.Rand) [16]uint32 {
	var w [16]uint32
	for i := range w {
		w[i] = r.Uint32()
	}
	return w
}

func numbers8(r *rand.Rand) [8]uint32 {
	var h [8]uint32
	for i := range h {
		h[i] = r.Uint32()
	}
	return h
}

// bitRot rotates bit by bit, so that it shares nothing with rot.
func bitRot(x uint32, n int) uint32 {
	for range n {
		low := x & 1
		x >>= 1
		if low == 1 {
			x |= 0x80000000
		}
	}
	return x
}

// plainCompress is P1.2 word for word, with a variable for each number.
func plainCompress(st [8]uint32, w [16]uint32) [8]uint32 {
	k := primeRoots()
	ws := Expand(w)
	a, b, c, d, e, f, g, h := st[0], st[1], st[2], st[3], st[4], st[5], st[6], st[7]
	for t := 0; t < 64; t++ {
		t1 := h + (bitRot(e, 6) ^ bitRot(e, 11) ^ bitRot(e, 25)) + ((e & f) ^ (^e & g)) + k[t] + ws[t]
		t2 := (bitRot(a, 2) ^ bitRot(a, 13) ^ bitRot(a, 22)) + ((a & b) ^ (a & c) ^ (b & c))
		h, g, f, e, d, c, b, a = g, f, e, d+t1, c, b, a, t1+t2
	}
	return [8]uint32{st[0] + a, st[1] + b, st[2] + c, st[3] + d, st[4] + e, st[5] + f, st[6] + g, st[7] + h}
}

// primeRoots are the constants K by their rule: 32 bits behind the point of the cube roots of the first 64 primes.
func primeRoots() [64]uint32 {
	var k [64]uint32
	n := 0
	for p := 2; n < 64; p++ {
		prime := true
		for d := 2; d*d <= p; d++ {
			prime = prime && p%d != 0
		}
		if prime {
			_, part := math.Modf(math.Cbrt(float64(p)))
			k[n] = uint32(part * (1 << 32))
			n++
		}
	}
	return k
}

// P1.1

func TestExpandKeepsTheBlockAhead(t *testing.T) {
	r := rand.New(rand.NewSource(1))
	w := numbers16(r)
	before := w
	out := Expand(w)
	if !bytes.Equal(wordBytes(out[:16]), wordBytes(w[:])) {
		t.Errorf("W(0) to W(15) are %x, want %x", out[:16], w)
	}
	if w != before {
		t.Error("the argument was changed")
	}
}

func wordBytes(w []uint32) []byte {
	var b []byte
	for _, n := range w {
		b = binary.BigEndian.AppendUint32(b, n)
	}
	return b
}

func TestExpandFollowsItsRule(t *testing.T) {
	r := rand.New(rand.NewSource(2))
	for range 50 {
		w := Expand(numbers16(r))
		for i := 16; i < 64; i++ {
			x, y := w[i-15], w[i-2]
			s0 := bitRot(x, 7) ^ bitRot(x, 18) ^ x>>3
			s1 := bitRot(y, 17) ^ bitRot(y, 19) ^ y>>10
			if want := s1 + w[i-7] + s0 + w[i-16]; w[i] != want {
				t.Fatalf("W(%d) is %x, want %x", i, w[i], want)
			}
		}
	}
}

func TestExpandOfSingleNumbers(t *testing.T) {
	if got := Expand([16]uint32{}); got != ([64]uint32{}) {
		t.Errorf("zeros give %x", got)
	}
	// Each of the four numbers that W(16) is made of, alone; and that the sum wraps round.
	for _, c := range []struct {
		at      int
		n, want uint32
	}{
		{0, 1, 1}, {9, 1, 1}, {1, 1, 0x02004000}, {14, 1, 0x0000a000}, {2, 1, 0},
		{1, 0x80000000, 0x11002000}, {14, 0x80000000, 0x00205000},
	} {
		w := [16]uint32{}
		w[c.at] = c.n
		if got := Expand(w)[16]; got != c.want {
			t.Errorf("W(%d) = %x gives W(16) = %x, want %x", c.at, c.n, got, c.want)
		}
	}
	if got := Expand([16]uint32{0: 0xffffffff, 9: 3})[16]; got != 2 {
		t.Errorf("the sum does not wrap round: %x", got)
	}
}

// P1.2

func TestKeysAreTheConstants(t *testing.T) {
	if want := primeRoots(); keys != want {
		t.Errorf("K is %x, want %x", keys, want)
	}
}

func TestCompressOfOneBlock(t *testing.T) {
	var w [16]uint32
	w[0], w[15] = 0x61626380, 24
	want := [8]uint32{0xba7816bf, 0x8f01cfea, 0x414140de, 0x5dae2223, 0xb00361a3, 0x96177a9c, 0xb410ff61, 0xf20015ad}
	if got := Compress(initial, w); got != want {
		t.Errorf("abc gives %x, want %x", got, want)
	}
}

func TestCompressFollowsItsRule(t *testing.T) {
	r := rand.New(rand.NewSource(3))
	for range 200 {
		h, w := numbers8(r), numbers16(r)
		h0, w0 := h, w
		got := Compress(h, w)
		if want := plainCompress(h, w); got != want {
			t.Fatalf("Compress(%x, %x) is %x, want %x", h, w, got, want)
		}
		if h != h0 || w != w0 {
			t.Fatal("an argument was changed")
		}
	}
}

func TestCompressOfEdges(t *testing.T) {
	full := [8]uint32{}
	ones := [16]uint32{}
	for i := range full {
		full[i] = math.MaxUint32
	}
	for i := range ones {
		ones[i] = math.MaxUint32
	}
	for _, h := range [][8]uint32{{}, full, initial} {
		for _, w := range [][16]uint32{{}, ones} {
			if got, want := Compress(h, w), plainCompress(h, w); got != want {
				t.Errorf("Compress(%x, %x) is %x, want %x", h, w, got, want)
			}
		}
	}
}

// P1.3

func TestPadLayout(t *testing.T) {
	for n := range 1000 {
		p := Pad(n)
		if (n+len(p))%64 != 0 || len(p) < 9 || len(p) > 72 {
			t.Fatalf("Pad(%d) has %d bytes", n, len(p))
		}
		zeros := strings.Repeat("\x00", len(p)-9)
		want := "\x80" + zeros + string(binary.BigEndian.AppendUint64(nil, 8*uint64(n)))
		if p != want {
			t.Fatalf("Pad(%d) is %x, want %x", n, p, want)
		}
	}
}

func TestPadLengths(t *testing.T) {
	for n, want := range map[int]int{0: 64, 1: 63, 54: 10, 55: 9, 56: 72, 57: 71, 63: 65, 64: 64, 119: 9, 120: 72} {
		if got := len(Pad(n)); got != want {
			t.Errorf("Pad(%d) has %d bytes, want %d", n, got, want)
		}
	}
}

func TestPadOfGreatNumbers(t *testing.T) {
	const top = 1 << 60
	zeros := strings.Repeat("\x00", 55)
	for n, want := range map[int]string{
		top:                "\x80" + zeros + "\x80\x00\x00\x00\x00\x00\x00\x00",
		top - 9:            "\x80\x7f\xff\xff\xff\xff\xff\xff\xb8",
		0x0123456789abcd37: "\x80\x09\x1a\x2b\x3c\x4d\x5e\x69\xb8",
	} {
		if got := Pad(n); got != want {
			t.Errorf("Pad(%d) is %x, want %x", n, got, want)
		}
	}
}

func TestPadOfWrongNumbers(t *testing.T) {
	for _, n := range []int{-1, -64, math.MinInt, 1<<60 + 1, 1<<60 + 55, 1 << 61, math.MaxInt} {
		if got := Pad(n); got != "" {
			t.Errorf("Pad(%d) is %x, want nothing", n, got)
		}
	}
}

// P1.4

func TestSumOfKnownTexts(t *testing.T) {
	for in, want := range map[string]string{
		"":    "e3b0c44298fc1c149afbf4c8996fb92427ae41e4649b934ca495991b7852b855",
		"abc": "ba7816bf8f01cfea414140de5dae2223b00361a396177a9cb410ff61f20015ad",
		"abcdbcdecdefdefgefghfghighijhijkijkljklmklmnlmnomnopnopq": "248d6a61d20638b8e5c026930c3e6039a33ce45964ff2167f6ecedd419db06c1",
	} {
		sum := Sum(in)
		if got := hex.EncodeToString(sum[:]); got != want {
			t.Errorf("Sum(%q) is %s, want %s", in, got, want)
		}
	}
}

func TestSumOfAllLengths(t *testing.T) {
	for n := range 300 {
		s := text(int64(n), n)
		if got, want := Sum(s), sha256.Sum256([]byte(s)); got != want {
			t.Fatalf("%d bytes: %x, want %x", n, got, want)
		}
	}
	s := text(4, 1<<18+7)
	if got, want := Sum(s), sha256.Sum256([]byte(s)); got != want {
		t.Errorf("a long text: %x, want %x", got, want)
	}
}

func TestPointIsTheSumsFirstPart(t *testing.T) {
	if got := Point(); got != 0xe3b0c44298fc1c14 {
		t.Errorf("Point of nothing is %x", got)
	}
	for n := range 130 {
		s := text(int64(n)+1000, n)
		sum := sha256.Sum256([]byte(s))
		if got, want := Point(s[:n/3], s[n/3:]), binary.BigEndian.Uint64(sum[:8]); got != want {
			t.Fatalf("%d bytes: %x, want %x", n, got, want)
		}
	}
}

// P1.5

func TestPartsDoNotMatter(t *testing.T) {
	const size = 200
	s := text(5, size)
	sum, point := sha256.Sum256([]byte(s)), Point(s)
	for cut := range size + 1 {
		if Sum(s[:cut], s[cut:]) != sum || Point(s[:cut], "", s[cut:]) != point {
			t.Fatalf("a cut at %d matters", cut)
		}
	}
	for _, piece := range []int{1, 2, 3, 7, 63, 64, 65, 128, 199} {
		parts := split(s, piece)
		before := strings.Join(parts, "|")
		if Sum(parts...) != sum || Point(parts...) != point {
			t.Errorf("parts of %d bytes matter", piece)
		}
		if strings.Join(parts, "|") != before {
			t.Errorf("parts of %d bytes were changed", piece)
		}
	}
}

func split(s string, piece int) []string {
	parts := []string{""}
	for len(s) > piece {
		parts = append(parts, s[:piece], "")
		s = s[piece:]
	}
	return append(parts, s)
}

func TestPartsOfNothing(t *testing.T) {
	want := sha256.Sum256(nil)
	for _, parts := range [][]string{nil, {}, {""}, {"", "", ""}} {
		if got := Sum(parts...); got != want {
			t.Errorf("%d empty parts: %x", len(parts), got)
		}
		if got := Point(parts...); got != 0xe3b0c44298fc1c14 {
			t.Errorf("Point of %d empty parts: %x", len(parts), got)
		}
	}
}

func TestPartsStayInOrder(t *testing.T) {
	if Sum("ab", "c") == Sum("c", "ab") {
		t.Error("the order of the parts does not matter")
	}
}

// P1, R4

func TestSameCallsAnswerTheSame(t *testing.T) {
	for range 3 {
		if Sum("a", "b") != Sum("ab") || Pad(70) != Pad(70) || Point("x") != Point("x") {
			t.Fatal("a second call answers something else")
		}
	}
	a, b := Sum("x"), Sum("x")
	a[0]++
	if Sum("x") != b {
		t.Error("a change to a result changes a later one")
	}
}
