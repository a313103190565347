package crc

import (
	"hash/crc32"
	"math"
	"math/rand"
	"strings"
	"testing"
)

// text is n bytes that differ from one another, and from one seed to the next.
func text(seed int64, n int) string {
	b := make([]byte, n)
	rand.New(rand.NewSource(seed)).Read(b)
	return string(b)
}

// numbers are edges and others of 32 bits.
func numbers() []uint32 {
	out := []uint32{0, 1, 2, 3, 0x7fffffff, 0x80000000, math.MaxUint32 - 1, math.MaxUint32, 0xedb88320}
	r := rand.New(rand.NewSource(1))
	for range 50 {
		out = append(out, r.Uint32())
	}
	return out
}

// plainSteps are n steps, one by one, so that they share nothing with the package's.
func plainSteps(c uint32, n int) uint32 {
	for range n {
		odd := c & 1
		c >>= 1
		if odd == 1 {
			c ^= 0xedb88320
		}
	}
	return c
}

// plainAdd is P2.1's Add word for word.
func plainAdd(c uint32, s string) uint32 {
	c = ^c
	for i := 0; i < len(s); i++ {
		c = plainSteps(c^uint32(s[i]), 8)
	}
	return ^c
}

// split is s in parts of some bytes, with empty ones between them.
func split(s string, piece int) []string {
	parts := []string{""}
	for len(s) > piece {
		parts = append(parts, s[:piece], "")
		s = s[piece:]
	}
	return append(parts, s)
}

// P2.1

func TestOfKnownTexts(t *testing.T) {
	for in, want := range map[string]uint32{
		"":                        0,
		"a":                       0xe8b7be43,
		"abc":                     0x352441c2,
		"123456789":               0xcbf43926,
		"\x00":                    0xd202ef8d,
		"\xff":                    0xff000000,
		"\x00\x00\x00\x00":        0x2144df1c,
		"\xff\xff\xff\xff":        0xffffffff,
		strings.Repeat("a", 1000): 0x9a38da03,
		"The quick brown fox jumps over the lazy dog": 0x414fa339,
	} {
		if got := Of(in); got != want {
			t.Errorf("Of(%.50q) is %08x, want %08x", in, got, want)
		}
	}
}

func TestOfEachByte(t *testing.T) {
	for b := range 256 {
		s := string([]byte{byte(b)})
		if got, want := Of(s), plainAdd(0, s); got != want {
			t.Errorf("Of(%q) is %08x, want %08x", s, got, want)
		}
	}
}

func TestOfAllLengths(t *testing.T) {
	for n := range 300 {
		s := text(int64(n), n)
		if got, want := Of(s), crc32.ChecksumIEEE([]byte(s)); got != want {
			t.Fatalf("%d bytes: %08x, want %08x", n, got, want)
		}
	}
	s := text(2, 1<<20+7)
	if got, want := Of(s), crc32.ChecksumIEEE([]byte(s)); got != want {
		t.Errorf("a long text: %08x, want %08x", got, want)
	}
}

func TestOfIsOfBytesNotRunes(t *testing.T) {
	for _, s := range []string{"\u00e9", "\u4e16\u754c", "\xe9\x80", "\xf0\x9f\x98", "a\x00b"} {
		if got, want := Of(s), crc32.ChecksumIEEE([]byte(s)); got != want {
			t.Errorf("Of(%q) is %08x, want %08x", s, got, want)
		}
	}
}

func TestOfNoParts(t *testing.T) {
	for _, parts := range [][]string{nil, {}, {""}, {"", "", ""}} {
		if got := Of(parts...); got != 0 {
			t.Errorf("%d empty parts: %08x", len(parts), got)
		}
	}
}

func TestAddGoesOn(t *testing.T) {
	if got := Add(Of("12345"), "6789"); got != 0xcbf43926 {
		t.Errorf("12345 and 6789 give %08x", got)
	}
	const size = 100
	s := text(3, size)
	for cut := range size + 1 {
		if got, want := Add(Of(s[:cut]), s[cut:]), Of(s); got != want {
			t.Fatalf("a cut at %d: %08x, want %08x", cut, got, want)
		}
	}
	c := uint32(0)
	for i := range size {
		c = Add(c, s[i:i+1])
	}
	if c != Of(s) {
		t.Errorf("byte by byte: %08x, want %08x", c, Of(s))
	}
}

func TestAddFollowsItsRule(t *testing.T) {
	for _, c := range numbers() {
		for n := range 20 {
			s := text(int64(c)+int64(n), n)
			if got, want := Add(c, s), plainAdd(c, s); got != want {
				t.Fatalf("Add(%08x, %q) is %08x, want %08x", c, s, got, want)
			}
		}
	}
}

func TestAddOfNothing(t *testing.T) {
	for _, c := range numbers() {
		if got := Add(c, ""); got != c {
			t.Errorf("Add(%08x, nothing) is %08x", c, got)
		}
	}
}

// P2.2

func TestShiftFollowsItsRule(t *testing.T) {
	for _, c := range numbers() {
		for n := range 300 {
			if got, want := Shift(c, n), plainSteps(c, 8*n); got != want {
				t.Fatalf("Shift(%08x, %d) is %08x, want %08x", c, n, got, want)
			}
		}
	}
}

func TestShiftOfKnownNumbers(t *testing.T) {
	for _, c := range []struct {
		c    uint32
		n    int
		want uint32
	}{
		{0, 0, 0}, {0, 1 << 40, 0}, {1, 0, 1}, {1, 1, 0x77073096}, {0x80000000, 1, 0x00800000},
		{0x80000000, 3, 0x00000080}, {0x100, 1, 1}, {0xff000000, 3, 0xff}, {math.MaxUint32, 1, 0x2dfd1072},
	} {
		if got := Shift(c.c, c.n); got != c.want {
			t.Errorf("Shift(%08x, %d) is %08x, want %08x", c.c, c.n, got, c.want)
		}
	}
}

func TestShiftOfNegativeNumbers(t *testing.T) {
	for _, c := range numbers() {
		for _, n := range []int{-1, -2, -256, math.MinInt32, -1 << 40, math.MinInt + 1, math.MinInt} {
			if got := Shift(c, n); got != c {
				t.Fatalf("Shift(%08x, %d) is %08x", c, n, got)
			}
		}
	}
}

// matrix is what a linear function makes of each single bit.
type matrix [32]uint32

func (m *matrix) of(c uint32) uint32 {
	out := uint32(0)
	for i := range m {
		if c>>i&1 == 1 {
			out ^= m[i]
		}
	}
	return out
}

// plainShift is n bytes' steps by the squares of the matrix of a byte's steps, for numbers too great to go step by step.
func plainShift(c uint32, n int) uint32 {
	var m matrix
	for i := range m {
		m[i] = plainSteps(1<<i, 8)
	}
	for ; n > 0; n /= 2 {
		if n%2 == 1 {
			c = m.of(c)
		}
		var square matrix
		for i := range m {
			square[i] = m.of(m[i])
		}
		m = square
	}
	return c
}

func TestShiftOfGreatNumbers(t *testing.T) {
	r := rand.New(rand.NewSource(4))
	sizes := []int{1<<20 - 1, 1 << 20, 1<<31 - 1, 1 << 31, 1<<32 - 2, 1<<32 - 1, 1 << 32, 1<<40 - 256, 1<<40 - 1, 1 << 40}
	for range 20 {
		sizes = append(sizes, r.Intn(1<<40))
	}
	for _, c := range numbers() {
		for _, n := range sizes {
			if got, want := Shift(c, n), plainShift(c, n); got != want {
				t.Fatalf("Shift(%08x, %d) is %08x, want %08x", c, n, got, want)
			}
		}
	}
}

// The steps come back to where they were after 2^32 - 1 of them, so that 2^40 bytes are as many as 256.
func TestShiftBeyondItsLimit(t *testing.T) {
	for _, c := range numbers() {
		want := plainSteps(c, 8*256)
		for _, n := range []int{1 << 40, 1<<40 + 1, 1<<40 + 2, 1 << 41, 1<<43 + 5, 1 << 61, math.MaxInt - 1, math.MaxInt} {
			if got := Shift(c, n); got != want {
				t.Fatalf("Shift(%08x, %d) is %08x, want %08x", c, n, got, want)
			}
		}
		if got, want := Shift(c, 1<<40-1), plainSteps(c, 8*255); got != want {
			t.Fatalf("Shift(%08x, 2^40 - 1) is %08x, want %08x", c, got, want)
		}
	}
}

func TestJoinFollowsItsRule(t *testing.T) {
	all := numbers()
	for i, a := range all {
		b := all[len(all)-1-i]
		for _, n := range []int{0, 1, 2, 3, 4, 7, 8, 63, 64, 100} {
			if got, want := Join(a, b, n), plainSteps(a, 8*n)^b; got != want {
				t.Fatalf("Join(%08x, %08x, %d) is %08x, want %08x", a, b, n, got, want)
			}
		}
	}
}

func TestJoinOfWrongNumbers(t *testing.T) {
	const a, b = 0x12345678, 0x9abcdef0
	for _, n := range []int{0, -1, math.MinInt} {
		if got := Join(a, b, n); got != a^b {
			t.Errorf("Join by %d is %08x, want %08x", n, got, a^b)
		}
	}
	want := plainSteps(a, 8*256) ^ b
	for _, n := range []int{1 << 40, 1<<40 + 1, math.MaxInt} {
		if got := Join(a, b, n); got != want {
			t.Errorf("Join by %d is %08x, want %08x", n, got, want)
		}
	}
}

// P2.3

func TestJoinIsOfBothTexts(t *testing.T) {
	if got := Join(Of("12345"), Of("6789"), 4); got != 0xcbf43926 {
		t.Errorf("12345 and 6789 give %08x", got)
	}
	const size = 200
	s := text(5, size)
	want := crc32.ChecksumIEEE([]byte(s))
	for cut := range size + 1 {
		if got := Join(Of(s[:cut]), Of(s[cut:]), size-cut); got != want {
			t.Fatalf("a cut at %d: %08x, want %08x", cut, got, want)
		}
	}
}

func TestJoinOfLongTexts(t *testing.T) {
	s := text(6, 1<<20)
	want := crc32.ChecksumIEEE([]byte(s))
	for _, cut := range []int{0, 1, 1 << 10, 1<<19 - 1, 1 << 19, 777777, 1<<20 - 1, 1 << 20} {
		if got := Join(Of(s[:cut]), Of(s[cut:]), len(s)-cut); got != want {
			t.Errorf("a cut at %d: %08x, want %08x", cut, got, want)
		}
	}
}

func TestJoinOfManyTexts(t *testing.T) {
	s := text(7, 500)
	c := Of()
	for _, part := range split(s, 7) {
		c = Join(c, Of(part), len(part))
	}
	if c != Of(s) {
		t.Errorf("joined one by one: %08x, want %08x", c, Of(s))
	}
}

func TestPartsDoNotMatter(t *testing.T) {
	const size = 120
	s := text(8, size)
	want := crc32.ChecksumIEEE([]byte(s))
	for cut := range size + 1 {
		if got := Of(s[:cut], "", s[cut:]); got != want {
			t.Fatalf("a cut at %d: %08x, want %08x", cut, got, want)
		}
	}
	for _, piece := range []int{1, 2, 3, 7, 8, 64, 119, 120} {
		parts := split(s, piece)
		before := strings.Join(parts, "|")
		if got := Of(parts...); got != want {
			t.Errorf("parts of %d bytes: %08x, want %08x", piece, got, want)
		}
		if strings.Join(parts, "|") != before {
			t.Errorf("parts of %d bytes were changed", piece)
		}
	}
}

func TestPartsStayInOrder(t *testing.T) {
	if Of("ab", "c") == Of("c", "ab") {
		t.Error("the order of the parts does not matter")
	}
	if Join(Of("ab"), Of("c"), 1) == Join(Of("c"), Of("ab"), 2) {
		t.Error("the order of the texts does not matter")
	}
}

// flip is s with the bits of a pattern changed, which begins at a bit. A byte's bits are counted from its least significant one, as the steps take them.
func flip(s string, at int, pattern uint32) string {
	b := []byte(s)
	for i := range 32 {
		b[(at+i)/8] ^= byte(pattern>>i&1) << ((at + i) % 8)
	}
	return string(b)
}

func TestDifferencesWithin32BitsShow(t *testing.T) {
	r := rand.New(rand.NewSource(9))
	s := text(10, 40)
	c := Of(s)
	for at := range 8*len(s) - 31 {
		patterns := append(numbers(), 0xdb710641, 0x04c11db7, 0x82608edb, 1<<(at%32), r.Uint32())
		for _, p := range patterns {
			if p != 0 && Of(flip(s, at, p)) == c {
				t.Fatalf("the difference %08x at bit %d does not show", p, at)
			}
		}
	}
}

// Differences combine, so that all within 32 bits show if those of single bits are independent of one another.
func TestDifferencesOfSingleBitsAreIndependent(t *testing.T) {
	s := text(11, 9)
	for at := range 8*len(s) - 31 {
		var rows [32]uint32 // by the highest bit of each
		for i := range 32 {
			d := Of(flip(s, at, 1<<i)) ^ Of(s)
			for bit := 31; bit >= 0 && d != 0; bit-- {
				if d>>bit&1 == 0 {
					continue
				}
				if rows[bit] == 0 {
					rows[bit] = d
					break
				}
				d ^= rows[bit]
			}
			if d == 0 {
				t.Fatalf("at bit %d, a difference of up to %d bits does not show", at, i+1)
			}
		}
	}
}

// P1, R4

func TestSameCallsAnswerTheSame(t *testing.T) {
	for range 3 {
		if Of("a", "b") != 0x9e83486d || Add(7, "x") != plainAdd(7, "x") || Shift(5, 3) != plainSteps(5, 24) || Join(1, 2, 3) != plainSteps(1, 24)^2 {
			t.Fatal("a second call answers something else")
		}
	}
}

func BenchmarkOfShortText(b *testing.B) {
	s := text(12, 40)
	for b.Loop() {
		Of(s)
	}
}
