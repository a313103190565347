package frame

import (
	"encoding/binary"
	"math/rand"
	"runtime"
	"slices"
	"strings"
	"testing"
	"unsafe"

	"fingerpost/api"
)

// x is a string of n bytes, in which neighbours differ.
func x(n int) string {
	b := make([]byte, n)
	for i := range b {
		b[i] = byte(i % 251)
	}
	return string(b)
}

// single are the bytes of a string, each by itself.
func single(s string) []string {
	var out []string
	for i := range len(s) {
		out = append(out, s[i:i+1])
	}
	return out
}

// framed is the frame of a string by the chapter's words.
func framed(s string) string {
	return string(binary.BigEndian.AppendUint16(nil, uint16(len(s)))) + s
}

// all are the frames of strings by the chapter's words.
func all(parts ...string) string {
	out := ""
	for _, s := range parts {
		out += framed(s)
	}
	return out
}

// fed is a reader of texts.
func fed(texts ...string) *Reader {
	r := New()
	for _, s := range texts {
		r.Feed(s)
	}
	return r
}

// rest are all the strings that a reader has.
func rest(r *Reader) []string {
	var out []string
	for s := range r.Each() {
		out = append(out, s)
	}
	return out
}

// left tells of a reader with another number of bytes left.
func left(t *testing.T, what string, r *Reader, want int) {
	t.Helper()
	if got := r.Left(); got != want {
		t.Errorf("%s: %d bytes are left, want %d", what, got, want)
	}
	if got := r.Feed(""); got != want {
		t.Errorf("%s: Feed of nothing is %d, want %d", what, got, want)
	}
}

// next tells of a reader whose next string is another one.
func next(t *testing.T, what string, r *Reader, want string) {
	t.Helper()
	if got, ok := r.Next(); got != want || !ok {
		t.Errorf("%s: Next is %.20q of %d bytes, %v, want %.20q of %d bytes", what, got, len(got), ok, want, len(want))
	}
}

// none tells of a reader that has a string, or that loses bytes when it is asked for one.
func none(t *testing.T, what string, r *Reader) {
	t.Helper()
	before := r.Left()
	if got, ok := r.Next(); got != "" || ok {
		t.Errorf("%s: Next is %.20q of %d bytes, %v", what, got, len(got), ok)
	}
	if got := rest(r); len(got) > 0 {
		t.Errorf("%s: Each has %.20q", what, got)
	}
	left(t, what, r, before)
}

// P7.1

func TestPut(t *testing.T) {
	for s, want := range map[string]string{"": "\x00\x00", "ab": "\x00\x02ab", "\x00": "\x00\x01\x00", "\x00\x02ab": "\x00\x04\x00\x02ab", "\xff\xfe": "\x00\x02\xff\xfe"} {
		if got, err := Put(s); got != want || err != api.OK {
			t.Errorf("Put(%q) is %q, %d", s, got, err)
		}
	}
	for _, n := range []int{0, 1, 2, 3, 127, 128, 254, 255, 256, 257, 258, 511, 512, 513, 4096, 32767, 32768, 65279, 65280, 65534, 65535} {
		s := x(n)
		got, err := Put(s)
		if got != framed(s) || err != api.OK {
			t.Errorf("Put of %d bytes has %d bytes, %d", n, len(got), err)
		}
		if len(got) != n+2 || int(got[0])*256+int(got[1]) != n {
			t.Errorf("Put of %d bytes begins with %x", n, got[:2])
		}
	}
}

// tooLong are numbers of bytes that two bytes cannot tell.
func tooLong() []int {
	return []int{65536, 65537, 65538, 65536 + 65535, 2 * 65536, 1 << 24, 1<<24 + 1}
}

func TestPutOfTooMuch(t *testing.T) {
	for _, n := range tooLong() {
		if got, err := Put(strings.Repeat("a", n)); got != "" || err != api.ErrSize {
			t.Errorf("Put of %d bytes has %d bytes, %d", n, len(got), err)
		}
	}
}

func TestAll(t *testing.T) {
	for _, parts := range [][]string{nil, {}, {""}, {"ab"}, {"", ""}, {"ab", "", "c"}, {"", "\x00", "\x00\x00"}, {x(65535)}, {x(65535), "", x(65535)}, {x(256), x(255), x(1)}, make([]string, 3000), single(x(3000))} {
		got, err := All(parts...)
		if got != all(parts...) || err != api.OK {
			t.Errorf("All of %d strings has %d bytes, %d", len(parts), len(got), err)
		}
		joined := ""
		for _, s := range parts {
			part, err := Put(s)
			if joined += part; err != api.OK {
				t.Errorf("Put of %d bytes is %d", len(s), err)
			}
		}
		if got != joined {
			t.Errorf("All of %d strings is not what Put answers for them", len(parts))
		}
	}
	if got, err := All(); got != "" || err != api.OK {
		t.Errorf("All of nothing is %q, %d", got, err)
	}
	if got, err := All("ab", "", "c"); got != "\x00\x02ab\x00\x00\x00\x01c" || err != api.OK {
		t.Errorf("All is %q, %d", got, err)
	}
}

func TestAllOfTooMuch(t *testing.T) {
	for _, n := range tooLong() {
		for at := range 4 {
			parts := []string{"a", "", x(65535), "b"}
			parts[at] = strings.Repeat("a", n)
			if got, err := All(parts...); got != "" || err != api.ErrSize {
				t.Errorf("All with %d bytes as string %d has %d bytes, %d", n, at, len(got), err)
			}
		}
	}
	long := strings.Repeat("a", 65536)
	if got, err := All(long, long); got != "" || err != api.ErrSize {
		t.Errorf("All of two that are too long has %d bytes, %d", len(got), err)
	}
}

func TestAllLeavesItsParts(t *testing.T) {
	parts := append(make([]string, 0, 8), "ab", "", "c")
	All(parts...)
	if want := []string{"ab", "", "c", "", "", "", "", ""}; !slices.Equal(parts[:8], want) {
		t.Errorf("the parts became %q", parts[:8])
	}
	got, _ := All(parts...)
	if parts[0] = "other"; got != "\x00\x02ab\x00\x00\x00\x01c" {
		t.Errorf("what was answered became %q", got)
	}
}

// P7.2

func TestExample(t *testing.T) {
	r := New()
	if n := r.Feed("\x00\x02\x61"); n != 3 {
		t.Errorf("Feed is %d", n)
	}
	none(t, "ahead of the last byte", r)
	if n := r.Feed("\x62\x00\x00\x00"); n != 7 {
		t.Errorf("Feed is %d", n)
	}
	next(t, "the first", r, "ab")
	next(t, "the second", r, "")
	left(t, "at the end", r, 1)
}

func TestFeed(t *testing.T) {
	r, want := New(), 0
	left(t, "ahead of all", r, 0)
	for _, s := range []string{"", "\x00", "", "\x03a", "bc\x00", strings.Repeat("\xff", 100000), "a"} {
		want += len(s)
		if n := r.Feed(s); n != want {
			t.Errorf("Feed of %d bytes is %d, want %d", len(s), n, want)
		}
		left(t, "after Feed", r, want)
	}
	next(t, "after all", r, "abc")
	left(t, "after Next", r, want-5)
	if n := r.Feed("ab"); n != want-3 {
		t.Errorf("Feed after Next is %d, want %d", n, want-3)
	}
}

func TestNextOfAnyLength(t *testing.T) {
	for _, n := range []int{0, 1, 2, 3, 127, 128, 254, 255, 256, 257, 258, 511, 512, 513, 4096, 32767, 32768, 65279, 65280, 65534, 65535} {
		s := x(n)
		f := framed(s)
		for _, behind := range []string{"", "\x00", "\x00\x00", "\x00\x01", f} {
			r := fed(f + behind)
			next(t, "a whole frame", r, s)
			left(t, "behind a whole frame", r, len(behind))
		}
		for _, missing := range []int{1, 2, 3, n, n + 1, n + 2} {
			if missing < 1 || missing > len(f) {
				continue
			}
			r := fed(f[:len(f)-missing])
			none(t, "a frame that is cut off", r)
			r.Feed(f[len(f)-missing:])
			next(t, "a frame that was cut off", r, s)
			none(t, "behind it", r)
			left(t, "behind it", r, 0)
		}
	}
}

func TestNextOnceAndInOrder(t *testing.T) {
	parts := []string{"one", "", "two", "two", x(300), "\x00\x01a", ""}
	r := fed(all(parts...) + "\x00\x05four")
	n := r.Left()
	for _, s := range parts {
		next(t, "one of some", r, s)
		n -= 2 + len(s)
		left(t, "after one of some", r, n)
	}
	for range 3 {
		none(t, "behind all", r)
	}
	if n != 6 {
		t.Errorf("%d bytes are left", n)
	}
}

func TestEach(t *testing.T) {
	parts := []string{"one", "", "two", "two", x(65535), "\x00\x01a", ""}
	r := fed(all(parts...) + "\x00\x02a")
	n := r.Left()
	each := r.Each()
	left(t, "when nothing was taken", r, n)
	var got []string
	for s := range each {
		got = append(got, s)
		n -= 2 + len(s)
		left(t, "after one of some", r, n)
	}
	if !slices.Equal(got, parts) {
		t.Errorf("Each has %d strings, want %d", len(got), len(parts))
	}
	none(t, "behind all", r)
	left(t, "behind all", r, 3)
	// The same enumeration goes on with what comes later.
	r.Feed("b" + all("c", ""))
	got = nil
	for s := range each {
		got = append(got, s)
	}
	if !slices.Equal(got, []string{"ab", "c", ""}) {
		t.Errorf("Each has %q later", got)
	}
	left(t, "later", r, 0)
}

func TestEachThatIsStopped(t *testing.T) {
	parts := []string{"one", "", "two", "three", "", "six"}
	for stop := 1; stop <= len(parts); stop++ {
		r := fed(all(parts...) + "\x00")
		var got []string
		r.Each()(func(s string) bool {
			got = append(got, s)
			return len(got) < stop
		})
		if !slices.Equal(got, parts[:stop]) {
			t.Errorf("Each has %q, want the first %d", got, stop)
		}
		left(t, "after a stop", r, len(all(parts[stop:]...))+1)
		if got := rest(r); !slices.Equal(got, parts[stop:]) {
			t.Errorf("after %d Each has %q", stop, got)
		}
		left(t, "after all", r, 1)
	}
}

// What yield does to the reader holds for the strings behind the one that it was given.
func TestEachWhoseYieldUsesTheReader(t *testing.T) {
	r := fed(all("one", "two", "three", "four"))
	var got []string
	for s := range r.Each() {
		got = append(got, s)
		switch s {
		case "one":
			next(t, "within Each", r, "two")
		case "three":
			r.Feed(all("five") + "\x00")
		case "five":
			r.Feed("\x03six")
			got = append(got, rest(r)...)
		}
	}
	if want := []string{"one", "three", "four", "five", "six"}; !slices.Equal(got, want) {
		t.Errorf("Each has %q, want %q", got, want)
	}
	left(t, "after all", r, 0)
	r = fed(all("one", "two", "three"))
	got = nil
	for s := range r.Each() {
		got = append(got, s)
		if s == "two" {
			r.Reset()
		}
	}
	if !slices.Equal(got, []string{"one", "two"}) {
		t.Errorf("Each has %q though Reset was called", got)
	}
	left(t, "after Reset within Each", r, 0)
}

func TestEachWhoseYieldPanics(t *testing.T) {
	r := fed(all("one", "two", "three"))
	func() {
		defer func() {
			if recover() != "mine" {
				t.Error("the panic of yield is not seen")
			}
		}()
		r.Each()(func(s string) bool { panic("mine") })
	}()
	if got := rest(r); !slices.Equal(got, []string{"two", "three"}) {
		t.Errorf("after a panic Each has %q", got)
	}
}

func TestEachWithoutYield(t *testing.T) {
	r := fed(all("one") + "\x00")
	r.Each()(nil)
	left(t, "after Each without yield", r, 6)
	New().Each()(nil)
}

func TestReset(t *testing.T) {
	for _, s := range []string{"", "\x00", "\x00\x02", "\x00\x02a", all("ab"), all("ab", "cd") + "\x00", "\xff\xff" + x(60000), all(x(65535))} {
		for range 2 {
			r := fed(s)
			r.Reset()
			none(t, "after Reset", r)
			left(t, "after Reset", r, 0)
			if n := r.Feed("\x00\x01"); n != 2 {
				t.Errorf("Feed after Reset is %d", n)
			}
			r.Feed("a")
			next(t, "after Reset", r, "a")
			left(t, "behind all", r, 0)
			r.Reset()
			r.Reset()
			left(t, "after more of them", r, 0)
		}
	}
	r := fed(all("ab", "cd") + "\x00")
	next(t, "ahead of Reset", r, "ab")
	r.Reset()
	none(t, "after Next and Reset", r)
	if n := r.Feed(all("ef")); n != 4 {
		t.Errorf("Feed after Next and Reset is %d", n)
	}
	next(t, "after Next and Reset", r, "ef")
}

func TestNilReader(t *testing.T) {
	var r *Reader
	for range 2 {
		if n := r.Feed(all("ab")); n != 0 {
			t.Errorf("Feed is %d", n)
		}
		none(t, "nil", r)
		left(t, "nil", r, 0)
		r.Each()(func(string) bool {
			t.Error("Each has a string")
			return true
		})
		r.Each()(nil)
		r.Reset()
	}
}

func TestZeroReaderIsNew(t *testing.T) {
	var zero, other Reader
	fresh := New()
	for _, r := range []*Reader{&zero, fresh} {
		none(t, "without data", r)
		left(t, "without data", r, 0)
		r.Reset()
		if n := r.Feed(all("ab", "") + "\x00"); n != 7 {
			t.Errorf("Feed is %d", n)
		}
		next(t, "the first", r, "ab")
		if got := rest(r); !slices.Equal(got, []string{""}) {
			t.Errorf("Each has %q", got)
		}
		left(t, "at the end", r, 1)
	}
	left(t, "another zero one", &other, 0)
	if a, b := New(), New(); a == nil || a == b {
		t.Error("New answers one reader twice, or none")
	}
}

// P7.3

// arrives feeds a text in pieces, and tells of a string that is not answered as soon as its last byte was fed, nor in order.
func arrives(t *testing.T, parts []string, pieces []string, each bool) {
	t.Helper()
	var ends []int // behind which byte each string can be had
	end := 0
	for _, s := range parts {
		end += 2 + len(s)
		ends = append(ends, end)
	}
	r := New()
	count, taken, behind := 0, 0, 0
	for _, piece := range pieces {
		if behind += len(piece); r.Feed(piece) != behind-taken {
			t.Fatalf("after %d bytes, %d of them taken, %d are left", behind, taken, r.Left())
		}
		for count < len(ends) && ends[count] <= behind && !each {
			if got, ok := r.Next(); !ok || got != parts[count] {
				t.Fatalf("after %d bytes string %d is %.20q, %v, want %.20q", behind, count, got, ok, parts[count])
			}
			taken = ends[count]
			count++
		}
		for s := range r.Each() {
			if count >= len(ends) || ends[count] > behind || s != parts[count] {
				t.Fatalf("after %d bytes string %d is %.20q", behind, count, s)
			}
			taken = ends[count]
			count++
		}
		if count < len(ends) && ends[count] <= behind || r.Left() != behind-taken {
			t.Fatalf("after %d bytes %d strings were answered, and %d bytes are left", behind, count, r.Left())
		}
	}
	if count != len(parts) || r.Left() != 0 {
		t.Fatalf("%d strings of %d were answered, and %d bytes are left", count, len(parts), r.Left())
	}
}

func TestEachDivisionOfAFewBytes(t *testing.T) {
	for _, parts := range [][]string{{"abc"}, {"", "", ""}, {"ab", "", "c"}, {"a", "\x00\x01", "", "b"}, {"", "\x00", "\x00\x00"}, {x(9)}} {
		s, err := All(parts...)
		if err != api.OK || len(s) > 14 {
			t.Fatalf("All has %d bytes, %d", len(s), err)
		}
		for cuts := range 1 << (len(s) - 1) {
			var pieces []string
			from := 0
			for at := 1; at <= len(s); at++ {
				if at == len(s) || cuts>>(at-1)&1 == 1 {
					pieces = append(pieces, s[from:at])
					from = at
				}
			}
			arrives(t, parts, pieces, cuts%2 == 0)
			arrives(t, parts, pieces, cuts%2 == 1)
		}
	}
}

func TestEachDivisionInTwo(t *testing.T) {
	parts := []string{x(255), "", x(256), x(257), "a"}
	s, _ := All(parts...)
	for at := range len(s) + 1 {
		arrives(t, parts, []string{s[:at], s[at:]}, at%2 == 0)
	}
}

func TestByteByByte(t *testing.T) {
	parts := []string{x(65535), "", "a", x(65534), x(256), ""}
	s, _ := All(parts...)
	arrives(t, parts, single(s), false)
	arrives(t, parts, single(s), true)
}

func TestRandomDivisions(t *testing.T) {
	r := rand.New(rand.NewSource(1))
	for range 300 {
		var parts []string
		for range r.Intn(12) {
			size := r.Intn(1 + r.Intn(700))
			if r.Intn(20) == 0 {
				size = 65535 - r.Intn(3)
			}
			parts = append(parts, x(65535)[65535-size:])
		}
		s, err := All(parts...)
		if err != api.OK {
			t.Fatalf("All is %d", err)
		}
		var pieces []string
		greatest := 1 + r.Intn(1+r.Intn(100000))
		for s != "" {
			n := min(len(s), r.Intn(1+greatest))
			pieces = append(pieces, s[:n])
			s = s[n:]
		}
		arrives(t, parts, pieces, r.Intn(2) == 0)
	}
}

// model reads by the chapter's words, with all that was fed and how much of it was answered.
type model struct {
	all string
	at  int
}

// next is the next string.
func (m *model) next() (string, bool) {
	s := m.all[m.at:]
	if len(s) < 2 {
		return "", false
	}
	n := int(binary.BigEndian.Uint16([]byte(s)))
	if len(s)-2 < n {
		return "", false
	}
	m.at += 2 + n
	return s[2 : 2+n], true
}

// step does one thing at random to a reader and its model.
func step(t *testing.T, r *rand.Rand, reader *Reader, m *model) {
	t.Helper()
	switch r.Intn(9) {
	case 0, 1, 2:
		b := make([]byte, r.Intn(1+r.Intn(200)))
		for i := range b { // few great lengths, so that frames come to be whole
			b[i] = byte(r.Intn(3) * r.Intn(2) * r.Intn(1+r.Intn(100)))
		}
		m.all += string(b)
		if got := reader.Feed(string(b)); got != len(m.all)-m.at {
			t.Fatalf("Feed is %d, want %d", got, len(m.all)-m.at)
		}
	case 3, 4, 5, 6:
		want, found := m.next()
		if got, ok := reader.Next(); got != want || ok != found {
			t.Fatalf("Next is %q, %v, want %q, %v", got, ok, want, found)
		}
	case 7:
		stop := 1 + r.Intn(6)
		for got := range reader.Each() {
			if want, found := m.next(); got != want || !found {
				t.Fatalf("Each has %q, want %q, %v", got, want, found)
			}
			if stop--; stop == 0 {
				break
			}
		}
		if stop > 0 {
			if want, found := m.next(); found {
				t.Fatalf("Each ends ahead of %q", want)
			}
		}
	case 8:
		if r.Intn(20) == 0 {
			reader.Reset()
			*m = model{}
		}
	}
	if got := reader.Left(); got != len(m.all)-m.at {
		t.Fatalf("%d bytes are left, want %d", got, len(m.all)-m.at)
	}
}

func TestRandomCalls(t *testing.T) {
	r := rand.New(rand.NewSource(2))
	for range 400 {
		var reader Reader
		var m model
		for range 200 {
			step(t, r, &reader, &m)
		}
	}
}

// Two readers that are used by turns know nothing of each other.
func TestReadersByTurns(t *testing.T) {
	r := rand.New(rand.NewSource(3))
	var readers [3]Reader
	var models [3]model
	for range 5000 {
		i := r.Intn(3)
		step(t, r, &readers[i], &models[i])
	}
}

// P1, R3 to R5

func TestAnyBytesEnd(t *testing.T) {
	r := rand.New(rand.NewSource(4))
	for range 2000 {
		b := make([]byte, r.Intn(300))
		r.Read(b)
		reader := fed(string(b))
		n := len(b)
		for s := range reader.Each() {
			n -= 2 + len(s)
		}
		none(t, "behind all", reader)
		left(t, "behind all", reader, n)
	}
}

func TestSameCallsAnswerTheSame(t *testing.T) {
	for range 3 {
		s, err := All("ab", "", "c")
		if s != "\x00\x02ab\x00\x00\x00\x01c" || err != api.OK {
			t.Fatalf("a second call answers %q, %d", s, err)
		}
		if got := rest(fed(s)); !slices.Equal(got, []string{"ab", "", "c"}) {
			t.Fatalf("a second reader answers %q", got)
		}
	}
}

// start is where in memory a text begins.
func start(s string) uintptr {
	return uintptr(unsafe.Pointer(unsafe.StringData(s)))
}

// within reports whether a text lies in the memory of another one.
func within(part, all string) bool {
	return part != "" && start(part) >= start(all) && start(part) < start(all)+uintptr(len(all))
}

// Neither does a string keep the memory of the stream, nor a reader that of what it was fed.
func TestNoMemoryIsShared(t *testing.T) {
	s := all(x(1000), x(500))
	r := fed(s)
	data := unsafe.String(unsafe.SliceData(r.left), len(r.left))
	if within(data, s) {
		t.Error("the data that are left are what was fed")
	}
	for range 2 {
		if got, ok := r.Next(); !ok || within(got, s) || within(got, data) {
			t.Error("Next answers a piece of the stream")
		}
	}
	part := x(1000)
	for _, text := range []string{first(Put(part)), first(All(part))} {
		if within(text, part) || within(part, text) {
			t.Error("a frame shares its string's memory")
		}
	}
}

// first is what was answered beside an error.
func first(s string, _ api.Errno) string {
	return s
}

func TestStringsStay(t *testing.T) {
	r := fed(all("one", "two", "three") + "\x00\x04fo")
	got := rest(r)
	r.Feed("ur" + all(strings.Repeat("z", 1000)))
	next(t, "later", r, "four")
	r.Reset()
	r.Feed(strings.Repeat("y", 3000))
	if !slices.Equal(got, []string{"one", "two", "three"}) {
		t.Errorf("strings that were answered became %q", got)
	}
}

// What was answered is not kept: no more memory than what is left asks for.
func TestTakenMemoryIsLetGo(t *testing.T) {
	r := New()
	for range 3000 {
		r.Feed(all(x(1000)))
	}
	if behind := cap(r.left) - len(r.left); behind < 10000 {
		t.Fatalf("only %d bytes stay behind the data: this test has no room to show", behind)
	}
	for range 2999 {
		r.Next()
	}
	r.Feed("\x00")
	if cap(r.left) > 10000 {
		t.Errorf("of 3 million bytes 1003 are left, but there is room for %d", cap(r.left))
	}
	next(t, "the last one", r, x(1000))
	left(t, "at the end", r, 1)
	r = fed(all(x(60000)))
	r.Next()
	if r.left != nil {
		t.Error("nothing is left, but the memory of what was taken is kept")
	}
}

// allocated is how many bytes of memory a function asks for.
func allocated(f func()) uint64 {
	var before, after runtime.MemStats
	runtime.ReadMemStats(&before)
	f()
	runtime.ReadMemStats(&after)
	return after.TotalAlloc - before.TotalAlloc
}

// Where much is left, and bytes are taken and fed by turns, what is left is not moved each time.
func TestMuchThatIsLeft(t *testing.T) {
	const turns = 200000
	r := fed(strings.Repeat(framed("abc"), turns))
	n := r.Left()
	size := allocated(func() {
		for range turns {
			next(t, "by turns", r, "abc")
			r.Feed("\x00\x03abc")
		}
	})
	left(t, "by turns", r, n)
	if size > 1000*turns {
		t.Errorf("%d turns asked for %d bytes of memory", turns, size)
	}
	small := New()
	size = allocated(func() {
		for range turns {
			small.Feed("\x00")
			small.Feed("\x02a")
			small.Feed("b")
			next(t, "in pieces", small, "ab")
		}
	})
	if size > 1000*turns {
		t.Errorf("%d small ones asked for %d bytes of memory", turns, size)
	}
}
