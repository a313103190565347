package pack

import (
	"encoding/binary"
	"math"
	"math/rand"
	"strings"
	"testing"
	"unsafe"

	"fingerpost/api"
	"fingerpost/name"
)

// raw puts a name together, whose labels may be wrong, and which may be too long.
func raw(labels ...string) string {
	n := ""
	for _, l := range labels {
		n += string([]byte{byte(len(l))}) + l
	}
	return n + "\x00"
}

// dotted is the name of a text.
func dotted(text string) string {
	n, _ := name.Parse(text)
	return n
}

// x is n bytes of a label.
func x(n int) string {
	return strings.Repeat("x", n)
}

// to is a pointer.
func to(at int) string {
	return string([]byte{byte(0xc0 + at/256), byte(at)})
}

// far are offsets and sizes of which no string has so many bytes.
func far() []int {
	return []int{math.MinInt, math.MinInt + 1, -1 << 32, -3, -2, -1, 1 << 32, 1<<32 + 1, math.MaxInt - 255, math.MaxInt - 1, math.MaxInt}
}

// packed is what a packer has after names, which may point.
func packed(texts ...string) *Packer {
	p := New()
	for _, text := range texts {
		p.Name(dotted(text), true)
	}
	return p
}

// holds tells of a packer that has other bytes.
func holds(t *testing.T, what string, p *Packer, want string) {
	t.Helper()
	if got := p.Bytes(); got != want || p.Len() != len(want) {
		t.Errorf("%s: %q, %d bytes, want %q", what, got, p.Len(), want)
	}
}

// P4.1

func TestNumbers(t *testing.T) {
	s := "\x00\x01\x7f\x80\xff\xfe\xdc\xba\x98\x00\x00"
	for at := range len(s) {
		if n, after, err := Byte(s, at); n != s[at] || after != at+1 || err != api.OK {
			t.Errorf("Byte at %d is %x, %d, %d", at, n, after, err)
		}
		n, after, err := Word(s, at)
		switch {
		case at+2 > len(s) && (n != 0 || after != 0 || err != api.ErrForm):
			t.Errorf("Word at %d, of which a byte is missing, is %x, %d, %d", at, n, after, err)
		case at+2 <= len(s) && (n != binary.BigEndian.Uint16([]byte(s[at:])) || after != at+2 || err != api.OK):
			t.Errorf("Word at %d is %x, %d, %d", at, n, after, err)
		}
		long, after, err := Long(s, at)
		switch {
		case at+4 > len(s) && (long != 0 || after != 0 || err != api.ErrForm):
			t.Errorf("Long at %d, of which bytes are missing, is %x, %d, %d", at, long, after, err)
		case at+4 <= len(s) && (long != binary.BigEndian.Uint32([]byte(s[at:])) || after != at+4 || err != api.OK):
			t.Errorf("Long at %d is %x, %d, %d", at, long, after, err)
		}
	}
	if n, after, err := Long("\x01\x23\x45\x67\x89", 1); n != 0x23456789 || after != 5 || err != api.OK {
		t.Errorf("Long is %x, %d, %d", n, after, err)
	}
	if n, after, err := Word("\x01\x23\x45", 1); n != 0x2345 || after != 3 || err != api.OK {
		t.Errorf("Word is %x, %d, %d", n, after, err)
	}
}

func TestNumbersThatAreNotThere(t *testing.T) {
	for _, s := range []string{"", "a", "abc", "abcd", x(300)} {
		for _, at := range append(far(), len(s), len(s)+1, len(s)+5) {
			if n, after, err := Byte(s, at); n != 0 || after != 0 || err != api.ErrForm {
				t.Errorf("Byte of %d bytes at %d is %x, %d, %d", len(s), at, n, after, err)
			}
			if n, after, err := Word(s, at); n != 0 || after != 0 || err != api.ErrForm {
				t.Errorf("Word of %d bytes at %d is %x, %d, %d", len(s), at, n, after, err)
			}
			if n, after, err := Long(s, at); n != 0 || after != 0 || err != api.ErrForm {
				t.Errorf("Long of %d bytes at %d is %x, %d, %d", len(s), at, n, after, err)
			}
		}
	}
}

func TestRaw(t *testing.T) {
	s := "\x00ab\xffc"
	for at := -2; at <= len(s)+2; at++ {
		for n := -2; n <= len(s)+2; n++ {
			got, after, err := Raw(s, at, n)
			if at < 0 || n < 0 || at+n > len(s) {
				if got != "" || after != 0 || err != api.ErrForm {
					t.Errorf("Raw of %d bytes at %d is %q, %d, %d", n, at, got, after, err)
				}
				continue
			}
			if got != s[at:at+n] || after != at+n || err != api.OK {
				t.Errorf("Raw of %d bytes at %d is %q, %d, %d", n, at, got, after, err)
			}
		}
	}
	for _, a := range far() {
		for _, b := range append(far(), 0, 1, 5) {
			for _, c := range [][2]int{{a, b}, {b, a}} {
				if got, after, err := Raw(s, c[0], c[1]); got != "" || after != 0 || err != api.ErrForm {
					t.Errorf("Raw of %d bytes at %d is %q, %d, %d", c[1], c[0], got, after, err)
				}
			}
		}
	}
}

// P4.2

func TestName(t *testing.T) {
	example := "\x03www\x01a\x00\x01b\xc0\x04"
	for _, c := range []struct {
		s     string
		at    int
		want  string
		after int
	}{
		{"\x00", 0, "\x00", 1},
		{"\x00\x00", 1, "\x00", 2},
		{example, 0, dotted("www.a."), 7},
		{example, 4, dotted("a."), 7},
		{example, 6, "\x00", 7},
		{example, 7, dotted("b.a."), 11},
		{example, 9, dotted("a."), 11},
		{example + "\x00", 9, dotted("a."), 11},
		{"\x00\xc0\x00", 1, "\x00", 3},                                // the root by a pointer
		{"\x00\x01A\xc0\x00\x01b\xc0\x01", 5, dotted("b.A."), 9},      // two pointers: the offset behind the first one
		{"\x00\xc0\x00\xc0\x01\xc0\x03", 5, "\x00", 7},                // pointers to pointers
		{"\x01a\x01b\xc0\x00\x00", 6, "\x00", 7},                      // what stands ahead does not matter
		{"\x05\x01a\x00\xff\xff\x01b\xc0\x01", 6, dotted("b.a."), 10}, // into what was not read as a name
		{"\x03\x01b\x00\x01a\xc0\x01", 4, dotted("a.b."), 8},          // into a label
		{"\x01a\xc0\xc0\x00", 3, "", 0},
		{raw(x(63)) + "\xff", 0, raw(x(63)), 65},
		{raw("\x00", "\xc0", ".", "\\"), 0, raw("\x00", "\xc0", ".", "\\"), 9},
	} {
		wrong := api.OK
		if c.want == "" {
			wrong = api.ErrForm
		}
		if got, after, err := Name(c.s, c.at); got != c.want || after != c.after || err != wrong {
			t.Errorf("Name of %q at %d is %q, %d, %d, want %q, %d", c.s, c.at, got, after, err, c.want, c.after)
		}
	}
}

func TestNameOfWrongBytes(t *testing.T) {
	for _, c := range []struct {
		s  string
		at int
	}{
		{"", 0}, {"\x00", 1}, {"\x00", 2}, {"\x00", -1}, {"\x01", 0}, {"\x01a", 0}, {"\x02a\x00", 1}, {"\x02a", 0}, {"\x3f" + x(62), 0}, {"\x3f" + x(63), 0}, {"\x01a\x01", 0},
		{"\xc0", 0}, {"\x00\xc0", 1}, {"\x00\x01a\xc0", 1}, {"\x00\xff", 1}, // half a pointer
		{"\xc0\x00", 0}, {"\x01a\xc0\x00", 0}, {"\x01a\xc0\x00", 2}, {"\x00\x01a\xc0\x01", 1}, // back to where the part began
		{"\x00\x01a\xc0\x03", 1}, {"\x00\x01a\xc0\x03", 3}, // to itself
		{"\x01a\xc0\x04\x00", 0}, {"\xc0\x02\x00", 0}, {"\x00\xc0\x03\x00", 1}, // ahead
		{"\x00\x01a\xc0\x05\x00", 3}, {"\xff\xff\x00", 0}, {"\x00\x00\xc0\x80", 2},
		{"\x01a\xc0\x03\x01b\xc0\x00", 4},          // the second pointer leads ahead
		{"\x00\x01a\xc0\x01\x01b\xc0\x01", 5},      // the second one leads to where its part began
		{"\x00\x01a\x01b\xc0\x01\x01c\xc0\x03", 7}, // and ahead of where it stands, but not of where its part began
		{"\xc0\x00\xc0\x00", 2}, {"\xc0\x02\xc0\x00", 2}, {"\x40\x00", 0}, {"\xbf\x00", 0}, {"\x00\x80\x00", 1}, {"\x01a\x40" + x(64) + "\x00", 0},
	} {
		if got, after, err := Name(c.s, c.at); got != "" || after != 0 || err != api.ErrForm {
			t.Errorf("Name of %q at %d is %q, %d, %d", c.s, c.at, got, after, err)
		}
	}
	for _, at := range far() {
		for _, s := range []string{"", "\x00", dotted("a.") + to(0)} {
			if got, after, err := Name(s, at); got != "" || after != 0 || err != api.ErrForm {
				t.Errorf("Name of %q at %d is %q, %d, %d", s, at, got, after, err)
			}
		}
	}
}

// What a first byte says, with all bytes behind it that it may ask for, and few or many zero bytes ahead of it.
func TestEachFirstByteOfAName(t *testing.T) {
	for _, ahead := range []int{0, 1, 0x3f00, 0x3f01, 0x10000} {
		for b := range 256 {
			s := strings.Repeat("\x00", ahead) + string([]byte{byte(b)}) + strings.Repeat("\x00", 300)
			want, after, wrong := "", 0, api.ErrForm
			switch {
			case b == 0:
				want, after, wrong = "\x00", ahead+1, api.OK
			case b <= 63:
				want, after, wrong = raw(strings.Repeat("\x00", b)), ahead+b+2, api.OK
			case b >= 0xc0 && (b-0xc0)*256 < ahead:
				want, after, wrong = "\x00", ahead+2, api.OK
			}
			if got, behind, err := Name(s, ahead); got != want || behind != after || err != wrong {
				t.Errorf("a first byte %x at %x: %q, %d, %d", b, ahead, got, behind, err)
			}
		}
	}
	// All six bits of a pointer's first byte are of the offset.
	for high := range 64 {
		s := strings.Repeat("\xff", high*256+7) + "\x01a\x00"
		s += to(high*256 + 7)
		if got, after, err := Name(s, len(s)-2); got != dotted("a.") || after != len(s) || err != api.OK {
			t.Errorf("a pointer to %x: %q, %d, %d", high*256+7, got, after, err)
		}
	}
}

func TestNameSizes(t *testing.T) {
	most, three := raw(x(63), x(63), x(63), x(61)), raw(x(63), x(63), x(63))
	open := strings.TrimSuffix(three, "\x00") // 192 bytes of labels that go on
	for what, c := range map[string]struct {
		s    string
		at   int
		want api.Errno
	}{
		"255 bytes":                         {most, 0, api.OK},
		"256 bytes":                         {raw(x(63), x(63), x(63), x(62)), 0, api.ErrSize},
		"127 labels":                        {raw(strings.Split(strings.Repeat("a", 127), "")...), 0, api.OK},
		"128 labels":                        {raw(strings.Split(strings.Repeat("a", 128), "")...), 0, api.ErrSize},
		"255 bytes by a pointer":            {three + "\x3d" + x(61) + to(0), 193, api.OK},
		"256 bytes by a pointer":            {three + "\x3e" + x(62) + to(0), 193, api.ErrSize},
		"one label more by a pointer":       {most + "\x01a" + to(0), 255, api.ErrSize},
		"too many before bytes are missing": {open + "\x3e" + x(62), 0, api.ErrSize},
		"missing bytes before too many":     {open + "\x3f" + x(62), 0, api.ErrForm},
		"a missing end":                     {open + "\x3d" + x(61), 0, api.ErrForm},
		"too many before a wrong byte":      {open + "\x3e" + x(62) + "\x40", 0, api.ErrSize},
		"a wrong byte before too many":      {open + "\x40" + x(64), 0, api.ErrForm},
		"too many before a wrong pointer":   {open + "\x3e" + x(62) + to(0), 0, api.ErrSize},
		"a wrong pointer before too many":   {open + to(0) + "\x3e" + x(62), 0, api.ErrForm},
		"one label too many, missing":       {open + "\x3d" + x(61) + "\x01", 0, api.ErrForm},
		"one label too many":                {open + "\x3d" + x(61) + "\x01a", 0, api.ErrSize},
		"many labels":                       {strings.Repeat("\x01a", 1<<20), 0, api.ErrSize},
	} {
		got, after, err := Name(c.s, c.at)
		if err != c.want || (err != api.OK) != (got == "") || (err != api.OK) != (after == 0) {
			t.Errorf("%s: %d bytes, %d, %d, want %d", what, len(got), after, err, c.want)
		}
	}
	if got, after, err := Name(three+"\x3d"+x(61)+to(0), 193); got != raw(x(61), x(63), x(63), x(63)) || after != 257 || err != api.OK {
		t.Errorf("the longest name by a pointer has %d bytes, %d, %d", len(got), after, err)
	}
}

func TestAChainOfPointersEnds(t *testing.T) {
	s := "\x00"
	for at := 1; at < 0x4000; at += 2 {
		s += to(max(at-2, 0))
	}
	if got, after, err := Name(s, len(s)-2); got != "\x00" || after != len(s) || err != api.OK {
		t.Errorf("%q, %d, %d", got, after, err)
	}
	for _, s := range []string{strings.Repeat("\xc0", 1<<16), strings.Repeat("\xff", 1<<16), strings.Repeat("\xc0\x00", 1<<15), strings.Repeat("\xff\x00", 1<<15)} {
		for _, at := range []int{0, 2, 1 << 15, 1<<16 - 2} {
			if got, after, err := Name(s, at); got != "" || after != 0 || err != api.ErrForm {
				t.Errorf("%x.. at %d: %q, %d, %d", s[:2], at, got, after, err)
			}
		}
	}
}

// model reads the name at an offset by the chapter's words, of which size bytes of labels were read, in a part that began at start.
func model(s string, at, start, size int) (string, int, api.Errno) {
	if at < 0 || at >= len(s) {
		return "", 0, api.ErrForm
	}
	b := int(s[at])
	switch {
	case b == 0:
		return "\x00", at + 1, api.OK
	case b < 64:
		if at+1+b > len(s) {
			return "", 0, api.ErrForm
		}
		if size += 1 + b; size+1 > 255 {
			return "", 0, api.ErrSize
		}
		rest, after, err := model(s, at+1+b, start, size)
		if err != api.OK {
			return "", 0, err
		}
		return s[at:at+1+b] + rest, after, api.OK
	case b < 192 || at+1 == len(s):
		return "", 0, api.ErrForm
	}
	target := (b-192)*256 + int(s[at+1])
	if target >= start {
		return "", 0, api.ErrForm
	}
	n, _, err := model(s, target, target, size)
	if err != api.OK {
		return "", 0, err
	}
	return n, at + 2, api.OK
}

// likeModel holds Name at each offset, and about the ends, against the model.
func likeModel(t *testing.T, s string) {
	t.Helper()
	for at := -1; at <= len(s)+1; at++ {
		got, after, err := Name(s, at)
		want, behind, wrong := model(s, at, at, 0)
		if got != want || after != behind || err != wrong {
			t.Fatalf("Name of %q at %d is %q, %d, %d, want %q, %d, %d", s, at, got, after, err, want, behind, wrong)
		}
		if err == api.OK && name.Check(got) != api.OK {
			t.Fatalf("Name of %q at %d is %q, which is no name", s, at, got)
		}
	}
}

func TestNameOfAllShortStrings(t *testing.T) {
	const bytes = "\x00\x01\x02\x03\x04a\x40\xc0"
	all := []string{""}
	for range 6 {
		var next []string
		for _, s := range all {
			likeModel(t, s)
			for i := range len(bytes) {
				next = append(next, s+bytes[i:i+1])
			}
		}
		all = next
	}
}

func TestNameOfRandomStrings(t *testing.T) {
	r := rand.New(rand.NewSource(1))
	for range 300 {
		s := ""
		for range 1 + r.Intn(60) {
			switch r.Intn(12) {
			case 0:
				s += "\x00"
			case 1, 2, 3, 4:
				s += to(r.Intn(len(s) + 1))
			case 5:
				s += "\x3f" + x(63)
			case 6:
				s += string([]byte{byte(r.Intn(256))})
			default:
				label := raw(x(1 + r.Intn(9)))
				s += label[:len(label)-r.Intn(2)]
			}
		}
		likeModel(t, s)
	}
}

// P4.3

func TestAppendedNumbers(t *testing.T) {
	p := New()
	holds(t, "an empty packer", p, "")
	p.Byte(0xfe)
	p.Word(0x0123)
	p.Long(0x89abcdef)
	holds(t, "numbers", p, "\xfe\x01\x23\x89\xab\xcd\xef")
	p.Raw("")
	p.Raw("\x00a\xff")
	p.Raw("b")
	p.Byte(0)
	holds(t, "texts", p, "\xfe\x01\x23\x89\xab\xcd\xef\x00a\xffb\x00")
	p = New()
	for _, n := range []uint32{0, 1, 255, 256, 65535, 65536, 1 << 24, 1 << 31, math.MaxUint32} {
		at := p.Len()
		p.Long(n)
		p.Word(uint16(n >> 8))
		p.Byte(byte(n >> 16))
		s := p.Bytes()
		long, behindLong, _ := Long(s, at)
		word, behindWord, _ := Word(s, behindLong)
		b, behind, err := Byte(s, behindWord)
		if long != n || word != uint16(n>>8) || b != byte(n>>16) || behind != p.Len() || err != api.OK {
			t.Errorf("%x comes back as %x, %x, %x", n, long, word, b)
		}
	}
}

func TestAppendedNames(t *testing.T) {
	for _, c := range []struct {
		what  string
		texts []string
		want  string
	}{
		{"the chapter's example", []string{"www.a.", "b.a."}, "\x03www\x01a\x00\x01b\xc0\x04"},
		{"the root", []string{".", ".", "."}, "\x00\x00\x00"},
		{"the same name", []string{"www.a.", "www.a.", "www.a."}, dotted("www.a.") + to(0) + to(0)},
		{"the first that is known", []string{"c.", "b.c.", "a.b.c."}, "\x01c\x00\x01b\xc0\x00\x01a\xc0\x03"},
		{"a suffix, then the whole", []string{"a.b.", "b.", "a.b."}, dotted("a.b.") + to(2) + to(0)},
		{"a name ahead of a longer one", []string{"b.", "a.b.", "x.a.b."}, "\x01b\x00\x01a\xc0\x00\x01x\xc0\x03"},
		{"other case", []string{"a.", "A.", "b.a.", "B.A.", "b.A.", "b.a."}, "\x01a\x00\x01A\x00\x01b\xc0\x00\x01B\xc0\x03\x01b\xc0\x03\xc0\x06"},
		{"part of a label", []string{"aa.", "a.", "ba."}, "\x02aa\x00\x01a\x00\x02ba\x00"},
		{"no suffix", []string{"a.b.", "a.", "a.c."}, "\x01a\x01b\x00\x01a\x00\x01a\x01c\x00"},
		{"twice in a name", []string{"a.a.a.", "a.a.", "a."}, "\x01a\x01a\x01a\x00\xc0\x02\xc0\x04"},
		{"within a name", []string{"a.b.c.", "b.", "b.c."}, "\x01a\x01b\x01c\x00\x01b\x00\xc0\x02"},
	} {
		holds(t, c.what, packed(c.texts...), c.want)
	}
	// A label's bytes are no suffix, however they look.
	p := New()
	p.Name(raw("x\x01a"), true)
	p.Name(dotted("a."), true)
	holds(t, "within a label", p, raw("x\x01a")+dotted("a."))
}

func TestNamesWithoutPointers(t *testing.T) {
	p := New()
	p.Name(dotted("www.a."), false)
	p.Name(dotted("www.a."), false)
	p.Name(dotted("x.www.a."), false)
	want := dotted("www.a.") + dotted("www.a.") + dotted("x.www.a.")
	holds(t, "without pointers", p, want)
	// What they made known: each suffix where it came first.
	p.Name(dotted("www.a."), true)
	p.Name(dotted("y.x.www.a."), true)
	p.Name(dotted("a."), true)
	want += to(0) + "\x01y" + to(14) + to(4)
	holds(t, "then with pointers", p, want)
	// What pointed is known too, and without points it is written out all the same.
	p.Name(dotted("y.x.www.a."), false)
	holds(t, "then without", p, want+dotted("y.x.www.a."))
	p.Name(dotted("y.x.www.a."), true)
	holds(t, "then with a pointer to the first", p, want+dotted("y.x.www.a.")+to(25))
}

func TestOtherBytesMakeNothingKnown(t *testing.T) {
	p := New()
	p.Raw(dotted("www.a."))
	p.Word(0x0161)
	p.Byte(0)
	p.Name(dotted("a."), true)
	holds(t, "names as texts", p, dotted("www.a.")+"\x01a\x00\x01a\x00")
	p = New()
	p.Raw("12345")
	p.Name(dotted("a."), true)
	p.Raw("67")
	p.Name(dotted("b.a."), true)
	holds(t, "texts between names", p, "12345\x01a\x0067\x01b"+to(5))
}

func TestWrongNamesAppendNothing(t *testing.T) {
	for n, want := range map[string]api.Errno{
		"": api.ErrForm, "a": api.ErrForm, "www.a.": api.ErrForm, "\x01a": api.ErrForm, "\x01b\x01a": api.ErrForm, "\x01b\x01a\x00\x00": api.ErrForm, "\x01b\xc0\x00": api.ErrForm, "\xc0\x00": api.ErrForm, "\x40" + x(64) + "\x00": api.ErrForm, "\x01b\x01a\x02\x00": api.ErrForm,
		raw(x(63), x(63), x(63), x(62)): api.ErrSize, raw(strings.Split(strings.Repeat("a", 128), "")...): api.ErrSize, strings.Repeat("\x01a", 1<<20): api.ErrForm,
	} {
		for _, points := range []bool{false, true} {
			p := packed("c.")
			if err := p.Name(n, points); err != want || err != name.Check(n) {
				t.Errorf("Name of %d bytes %.20q is %d, want %d", len(n), n, err, want)
			}
			p.Name(dotted("b.a."), true)
			holds(t, "after a wrong name", p, dotted("c.")+dotted("b.a."))
		}
	}
}

// The last offset that a pointer can lead to is 3fff.
func TestPointersAtTheLastOffset(t *testing.T) {
	for at := 0x3ff8; at <= 0x4003; at++ {
		for _, points := range []bool{false, true} {
			p := New()
			p.Raw(strings.Repeat("\xff", at))
			p.Name(dotted("ab.c."), points)
			again := p.Len()
			p.Name(dotted("ab.c."), true)
			whole, part := to(at), to(at+3)
			switch {
			case at >= 0x4000: // neither label can be pointed to
				whole, part = dotted("ab.c."), dotted("c.")
			case at+3 >= 0x4000: // the first one can
				part = dotted("c.")
			}
			p.Name(dotted("x.c."), true)
			want := strings.Repeat("\xff", at) + dotted("ab.c.") + whole + "\x01x" + part
			if got := p.Bytes(); got != want {
				t.Errorf("names at %x: %q, want %q", at, got[at:], want[at:])
			}
			if n, _, err := Name(p.Bytes(), again); n != dotted("ab.c.") || err != api.OK {
				t.Errorf("the name behind that at %x comes back as %q, %d", at, n, err)
			}
		}
	}
	// A name that begins ahead of 4000 and goes on behind it: only its beginning is known.
	p := New()
	p.Raw(x(0x3fff))
	p.Name(dotted("a.b."), true)
	p.Name(dotted("b."), true)
	p.Name(dotted("b."), true)
	p.Name(dotted("a.b."), true)
	p.Name(dotted("c.a.b."), true)
	if got, want := p.Bytes()[0x3fff:], dotted("a.b.")+dotted("b.")+dotted("b.")+to(0x3fff)+"\x01c"+to(0x3fff); got != want {
		t.Errorf("about 4000: %q, want %q", got, want)
	}
}

func TestPatch(t *testing.T) {
	p := New()
	p.Raw("abcde")
	for _, c := range []struct {
		at   int
		n    uint16
		want string
	}{{0, 0x0102, "\x01\x02cde"}, {3, 0xfffe, "\x01\x02c\xff\xfe"}, {1, 0, "\x01\x00\x00\xff\xfe"}, {3, 0x3031, "\x01\x00\x0001"}} {
		if err := p.Patch(c.at, c.n); err != api.OK {
			t.Errorf("Patch at %d is %d", c.at, err)
		}
		holds(t, "after Patch", p, c.want)
	}
	for _, at := range append(far(), 4, 5, 6) {
		if err := p.Patch(at, 0x4142); err != api.ErrArg {
			t.Errorf("Patch at %d is %d", at, err)
		}
		holds(t, "after a wrong Patch", p, "\x01\x00\x0001")
	}
	for size, s := range []string{"", "a", "ab"} {
		for at := -1; at <= 2; at++ {
			p, want := New(), api.ErrArg
			p.Raw(s)
			if size == 2 && at == 0 {
				want = api.OK
			}
			if err := p.Patch(at, 7); err != want {
				t.Errorf("Patch of %d bytes at %d is %d", size, at, err)
			}
		}
	}
}

func TestPatchLeavesWhatWasAppendedKnown(t *testing.T) {
	p := packed("www.a.")
	p.Patch(4, 0x0162)
	p.Name(dotted("x.a."), true)
	p.Name(dotted("b."), true)
	holds(t, "after Patch", p, "\x03www\x01b\x00\x01x\xc0\x04\x01b\x00")
}

func TestNilPacker(t *testing.T) {
	var p *Packer
	p.Byte(1)
	p.Word(2)
	p.Long(3)
	p.Raw("abc")
	for _, n := range []string{"\x00", dotted("a."), "", "wrong", raw(x(63), x(63), x(63), x(63))} {
		if err := p.Name(n, true); err != api.ErrArg {
			t.Errorf("Name(%.9q) is %d", n, err)
		}
	}
	for _, at := range []int{-1, 0, 1} {
		if err := p.Patch(at, 1); err != api.ErrArg {
			t.Errorf("Patch at %d is %d", at, err)
		}
	}
	if p.Len() != 0 || p.Bytes() != "" {
		t.Errorf("it has %d bytes %q", p.Len(), p.Bytes())
	}
}

func TestZeroPackerIsNew(t *testing.T) {
	var zero Packer
	fresh := New()
	for _, p := range []*Packer{&zero, fresh} {
		holds(t, "an empty one", p, "")
		if err := p.Patch(0, 1); err != api.ErrArg {
			t.Errorf("Patch is %d", err)
		}
		p.Name(dotted("www.a."), true)
		p.Name(dotted("b.a."), true)
		holds(t, "after names", p, "\x03www\x01a\x00\x01b\xc0\x04")
	}
	holds(t, "another one knows nothing of them", packed("a."), "\x01a\x00")
}

func TestBytesStay(t *testing.T) {
	p := packed("www.a.")
	before := p.Bytes()
	p.Patch(0, 0x0778)
	p.Name(dotted("b.a."), true)
	if before != dotted("www.a.") {
		t.Errorf("bytes that were answered became %q", before)
	}
}

// within reports whether a text lies in the memory of another one.
func within(part, all string) bool {
	from, start := uintptr(unsafe.Pointer(unsafe.StringData(part))), uintptr(unsafe.Pointer(unsafe.StringData(all)))
	return part != "" && from >= start && from < start+uintptr(len(all))
}

// A text that is read or known does not keep the memory of all that it was a piece of.
func TestNoMemoryIsShared(t *testing.T) {
	s := x(1000) + dotted("www.a.")
	if got, _, _ := Raw(s, 10, 20); within(got, s) {
		t.Error("Raw answers a piece of its argument")
	}
	if got, _, _ := Name(s, 1000); within(got, s) {
		t.Error("Name answers a piece of its argument")
	}
	p := New()
	p.Name(s[1000:], true)
	for suffix := range p.known {
		if within(suffix, s) {
			t.Errorf("%q, which is known, is a piece of an argument", suffix)
		}
	}
}

// modelPacker does by the chapter's words what Name does, with a list of what is known.
type modelPacker struct {
	bytes string
	known []string
	at    []int
}

// find is where a suffix stands.
func (m *modelPacker) find(suffix string) (int, bool) {
	for i, s := range m.known {
		if s == suffix {
			return m.at[i], true
		}
	}
	return 0, false
}

// name appends a name that is right.
func (m *modelPacker) name(n string, points bool) {
	for n != "\x00" {
		at, ok := m.find(n)
		if ok && points {
			m.bytes += to(at)
			return
		}
		if !ok && len(m.bytes) < 0x4000 {
			m.known, m.at = append(m.known, n), append(m.at, len(m.bytes))
		}
		m.bytes += n[:1+n[0]]
		n = n[1+n[0]:]
	}
	m.bytes += "\x00"
}

// put is where a name was put, and where it ends.
type put struct {
	n         string
	at, after int
}

// randomName is of few labels, so that suffixes come again, or now and then as long as can be.
func randomName(r *rand.Rand) string {
	labels := []string{"a", "A", "b", "www", "\x00", "\x01a", "\xc0", x(20), x(63)}
	n := "\x00"
	for range r.Intn(1 + r.Intn(12)) {
		label := labels[r.Intn(len(labels))]
		if 1+len(label)+len(n) > 255 {
			break
		}
		n = string([]byte{byte(len(label))}) + label + n
	}
	return n
}

// fill does at random what can be done to a packer and to its model, and answers the names that were put.
func fill(r *rand.Rand, p *Packer, m *modelPacker) []put {
	var names []put
	for range 1 + r.Intn(60) {
		switch r.Intn(8) {
		case 0:
			filling := strings.Repeat("\x01a\x00", r.Intn(3)*r.Intn(30))
			p.Raw(filling)
			m.bytes += filling
		case 1:
			p.Word(0)
			p.Patch(p.Len()-2, 0x0161)
			m.bytes += "\x01a"
		default:
			n, at, points := randomName(r), p.Len(), r.Intn(3) > 0
			p.Name(n, points)
			m.name(n, points)
			names = append(names, put{n, at, p.Len()})
		}
	}
	return names
}

// P4.4

func TestNamesComeBack(t *testing.T) {
	r := rand.New(rand.NewSource(2))
	for i := range 2000 {
		var p Packer
		var m modelPacker
		if i%4 == 0 { // about where pointers end
			m.bytes = x(0x4000 - r.Intn(2000))
			p.Raw(m.bytes)
		}
		names := fill(r, &p, &m)
		s := p.Bytes()
		if s != m.bytes || p.Len() != len(s) {
			t.Fatalf("%q, want %q", s, m.bytes)
		}
		for _, n := range names {
			if got, after, err := Name(s, n.at); got != n.n || after != n.after || err != api.OK {
				t.Fatalf("%q at %d comes back as %q, %d, %d", n.n, n.at, got, after, err)
			}
		}
	}
}

func TestManyNamesComeBack(t *testing.T) {
	p := New()
	var names []put
	n := "\x00"
	for i := range 20000 {
		if n = "\x02" + string([]byte{byte(i / 256), byte(i)}) + n; len(n) > 255 || i%100 == 0 {
			n = n[:3] + "\x00"
		}
		at := p.Len()
		p.Name(n, true)
		names = append(names, put{n, at, p.Len()})
	}
	s := p.Bytes()
	for _, n := range names {
		if got, after, err := Name(s, n.at); got != n.n || after != n.after || err != api.OK {
			t.Fatalf("%q at %d comes back as %q, %d, %d", n.n, n.at, got, after, err)
		}
	}
}

// P1, R4

func TestAnyArgumentsEnd(t *testing.T) {
	r := rand.New(rand.NewSource(3))
	for range 3000 {
		b := make([]byte, r.Intn(80))
		r.Read(b)
		s := string(b)
		p := New()
		p.Raw(s)
		for _, at := range append(far(), r.Intn(90)-5) {
			Byte(s, at)
			Word(s, at)
			Long(s, at)
			Raw(s, at, r.Intn(90)-5)
			Name(s, at)
			p.Patch(at, uint16(at))
		}
		if p.Name(s, true) != name.Check(s) {
			t.Fatalf("Name(%q) differs from name.Check", s)
		}
	}
}

func TestSameCallsAnswerTheSame(t *testing.T) {
	for range 3 {
		s := packed("www.a.", "b.a.", "www.a.").Bytes()
		if n, after, err := Name(s, 7); s != "\x03www\x01a\x00\x01b\xc0\x04\xc0\x00" || n != dotted("b.a.") || after != 11 || err != api.OK {
			t.Fatalf("a second call answers %q, %q, %d, %d", s, n, after, err)
		}
	}
}
