package name

import (
	"math"
	"math/rand"
	"slices"
	"strconv"
	"strings"
	"testing"

	"fingerpost/api"
)

// raw puts a name together without the package: it may be too long, and its labels may be wrong.
func raw(labels ...string) string {
	n := ""
	for _, l := range labels {
		n += string([]byte{byte(len(l))}) + l
	}
	return n + "\x00"
}

// dotted is raw for a text without escapes, as in www.a. or a dot.
func dotted(text string) string {
	if text == "." {
		return "\x00"
	}
	return raw(strings.Split(strings.TrimSuffix(text, "."), ".")...)
}

// x is n bytes of a label.
func x(n int) string {
	return strings.Repeat("x", n)
}

// long are names whose sizes are at the limit and about it, by their bytes.
func long() map[int]string {
	return map[int]string{
		254: raw(x(63), x(63), x(63), x(60)),
		255: raw(x(63), x(63), x(63), x(61)),
		256: raw(x(63), x(63), x(63), x(62)),
		257: raw(x(63), x(63), x(63), x(63)),
	}
}

// model reads a name's labels by the chapter's words: whether they are well formed, not minding the size of all.
func model(n string) ([]string, bool) {
	if n == "\x00" {
		return nil, true
	}
	if n == "" || n[0] < 1 || n[0] > 63 || len(n) < 1+int(n[0]) {
		return nil, false
	}
	rest, ok := model(n[1+int(n[0]):])
	return append([]string{n[1 : 1+int(n[0])]}, rest...), ok
}

// texts are all strings of up to most of the bytes.
func texts(bytes string, most int) []string {
	all := []string{""}
	last := all
	for range most {
		var next []string
		for _, s := range last {
			for i := range len(bytes) {
				next = append(next, s+bytes[i:i+1])
			}
		}
		all, last = append(all, next...), next
	}
	return all
}

// notNames are of all kinds.
func notNames() []string {
	return []string{
		"", "a", "\x01", "\x01a", "\x02a\x00", "\x01a\x01", "\x01a\x00\x00", "\x00\x00", "\x00\x01a\x00", "\x01a\x00b",
		"\x40" + x(64) + "\x00", "\x3f" + x(62), "\x3f" + x(63), "\xc0\x00", "\x01a\xc0\x00", "\xff\x00", "\x80" + x(128) + "\x00",
		"www.a.", long()[256], long()[257], long()[256] + "\x00",
	}
}

// names are ordinary ones and edges.
func names() []string {
	out := []string{long()[254], long()[255], strings.Repeat("\x01a", 127) + "\x00", raw(x(63)), raw("\x00"), raw("\x01a"), raw("a\x01b"), raw("."), raw("a.b"), raw("\\", "046"), raw("\xff", "\x80\x7f")}
	for _, text := range []string{
		".", "a.", "A.", "b.", "aa.", "ab.", "a.a.", "A.a.", "b.a.", "B.A.", "www.a.", "WWW.A.", "www.b.", "www.ab.", "w.ww.a.", "x.www.a.", "a.b.a.", "z.", "Z.", "[.", "_.", "-.", "a-.", "a0.", "www.example.", "mail.example.", "eXaMpLe.",
	} {
		out = append(out, dotted(text))
	}
	return out
}

// P3.1

func TestCheck(t *testing.T) {
	for _, n := range names() {
		if got := Check(n); got != api.OK {
			t.Errorf("Check(%q) is %d", n, got)
		}
	}
	for n, want := range map[string]api.Errno{
		"": api.ErrForm, "\x01a": api.ErrForm, "\x02a\x00": api.ErrForm, "\x00\x00": api.ErrForm, "\x01a\x00\x00": api.ErrForm,
		"\x40" + x(64) + "\x00": api.ErrForm, "\xc0\x00": api.ErrForm, "\x01a\xc0\x00": api.ErrForm, raw(x(63)): api.OK,
		long()[254]: api.OK, long()[255]: api.OK, long()[256]: api.ErrSize, long()[257]: api.ErrSize,
		strings.Repeat("\x01a", 127) + "\x00": api.OK, strings.Repeat("\x01a", 128) + "\x00": api.ErrSize, strings.Repeat("\x01a", 1<<20) + "\x00": api.ErrSize,
	} {
		if got := Check(n); got != want {
			t.Errorf("Check of %d bytes %.40q is %d, want %d", len(n), n, got, want)
		}
	}
}

// A name that is too long and has another fault is not well formed.
func TestCheckFormComesAheadOfSize(t *testing.T) {
	over := strings.Repeat("\x3f"+x(63), 5)
	for _, n := range []string{over, over + "\x00\x00", over + "\x40" + x(64) + "\x00", over + "\x05abc\x00", over + "\xc0\x00", over + "\x00\x01a\x00", strings.Repeat("\x01a", 1<<20), strings.Repeat("\x00", 1<<20)} {
		if got := Check(n); got != api.ErrForm {
			t.Errorf("Check of %d bytes that end with %q is %d", len(n), n[len(n)-3:], got)
		}
	}
}

func TestAllShortStrings(t *testing.T) {
	for _, n := range texts("\x00\x01\x02\x03aA@", 6) {
		labels, ok := model(n)
		want, depth := api.OK, len(labels)
		if !ok {
			want, depth, labels = api.ErrForm, -1, nil
		}
		if got := Check(n); got != want {
			t.Fatalf("Check(%q) is %d, want %d", n, got, want)
		}
		if got := Depth(n); got != depth {
			t.Fatalf("Depth(%q) is %d, want %d", n, got, depth)
		}
		if got, err := Labels(n); err != want || !slices.Equal(got, labels) {
			t.Fatalf("Labels(%q) are %q, %d, want %q, %d", n, got, err, labels, want)
		}
	}
}

func TestEachLengthByte(t *testing.T) {
	for b := range 256 {
		n := string([]byte{byte(b)}) + x(b) + "\x00"
		want := api.ErrForm
		if 1 <= b && b <= 63 {
			want = api.OK
		}
		if b == 0 {
			n = "\x00"
			want = api.OK
		}
		if got := Check(n); got != want {
			t.Errorf("a label of %d bytes: %d, want %d", b, got, want)
		}
		if b > 0 && Check(n[:b]+"\x00") != api.ErrForm {
			t.Errorf("a label of %d bytes of which one is missing is well formed", b)
		}
	}
}

func TestMake(t *testing.T) {
	for _, c := range []struct {
		labels []string
		want   string
	}{
		{nil, "\x00"},
		{[]string{"www", "a"}, "\x03www\x01a\x00"},
		{[]string{"WwW"}, "\x03WwW\x00"},
		{[]string{"\x00", ".", "\\", "\xff"}, "\x01\x00\x01.\x01\\\x01\xff\x00"},
		{[]string{x(63), "a"}, "\x3f" + x(63) + "\x01a\x00"},
		{[]string{x(63), x(63), x(63), x(61)}, long()[255]},
		{[]string{x(61), x(63), x(63), x(63)}, raw(x(61), x(63), x(63), x(63))},
	} {
		if got, err := Make(c.labels...); got != c.want || err != api.OK {
			t.Errorf("Make(%q) is %q, %d, want %q", c.labels, got, err, c.want)
		}
	}
}

func TestMakeOfWrongLabels(t *testing.T) {
	many := slices.Repeat([]string{"abc"}, 1000)
	for _, c := range []struct {
		labels []string
		want   api.Errno
	}{
		{[]string{""}, api.ErrForm},
		{[]string{"a", ""}, api.ErrForm},
		{[]string{"", "a"}, api.ErrForm},
		{[]string{"a", "", "b"}, api.ErrForm},
		{[]string{x(64)}, api.ErrForm},
		{[]string{"a", x(64), "b"}, api.ErrForm},
		{[]string{x(256)}, api.ErrForm},
		{[]string{x(257)}, api.ErrForm}, // 257 and 1 are the same as a byte
		{[]string{x(1 << 20)}, api.ErrForm},
		{[]string{x(63), x(63), x(63), x(62)}, api.ErrSize},
		{[]string{x(63), x(63), x(63), x(63)}, api.ErrSize},
		{[]string{x(63), x(63), x(63), x(63), "a"}, api.ErrSize},
		{many, api.ErrSize},
		{append(slices.Clone(many), ""), api.ErrForm},
		{append(slices.Clone(many), x(64)), api.ErrForm},
		{append([]string{""}, many...), api.ErrForm},
		{append([]string{x(64)}, many...), api.ErrForm},
	} {
		before := slices.Clone(c.labels)
		if got, err := Make(c.labels...); got != "" || err != c.want {
			t.Errorf("Make of %d labels %.40q is %q, %d, want %d", len(c.labels), c.labels, got, err, c.want)
		}
		if !slices.Equal(before, c.labels) {
			t.Errorf("the labels %.40q were changed", before)
		}
	}
}

func TestLabelsAndDepth(t *testing.T) {
	for _, n := range names() {
		want, _ := model(n)
		if got, err := Labels(n); err != api.OK || !slices.Equal(got, want) {
			t.Errorf("Labels(%q) are %q, %d, want %q", n, got, err, want)
		}
		if got := Depth(n); got != len(want) {
			t.Errorf("Depth(%q) is %d, want %d", n, got, len(want))
		}
	}
	for _, n := range notNames() {
		if got, err := Labels(n); len(got) != 0 || err != Check(n) || err == api.OK {
			t.Errorf("Labels(%q) are %q, %d", n, got, err)
		}
		if got := Depth(n); got != -1 {
			t.Errorf("Depth(%q) is %d", n, got)
		}
	}
	if Depth("\x00") != 0 || Depth(dotted("www.a.")) != 2 || Depth(strings.Repeat("\x01a", 127)+"\x00") != 127 {
		t.Error("the depths of the root, of www.a. or of the deepest name are wrong")
	}
}

func TestLabelsBelongToTheCaller(t *testing.T) {
	n := dotted("www.a.")
	first, _ := Labels(n)
	first[0], first[1] = "other", "other"
	if second, _ := Labels(n); !slices.Equal(second, []string{"www", "a"}) {
		t.Errorf("after a change to a result: %q", second)
	}
}

// P3.2

func TestLowerOfEachByte(t *testing.T) {
	var all, want []byte
	for b := range 256 {
		all = append(all, byte(b))
		if 65 <= b && b <= 90 {
			b += 32
		}
		want = append(want, byte(b))
	}
	if got := Lower(string(all)); got != string(want) {
		t.Errorf("Lower of all bytes is %q", got)
	}
	for n, want := range map[string]string{"": "", "\x03WwW\x01A\x00": "\x03www\x01a\x00", "\xc3\x84": "\xc3\x84", "no NAME": "no name", "@[`{": "@[`{"} {
		if got := Lower(n); got != want {
			t.Errorf("Lower(%q) is %q, want %q", n, got, want)
		}
	}
}

func TestSame(t *testing.T) {
	for _, a := range names() {
		for _, b := range names() {
			if got, want := Same(a, b), modelLower(a) == modelLower(b); got != want {
				t.Errorf("Same(%q, %q) is %v", a, b, got)
			}
		}
		for _, b := range notNames() {
			if Same(a, b) || Same(b, a) {
				t.Errorf("Same(%q, %q)", a, b)
			}
		}
	}
	for _, a := range notNames() {
		if Same(a, a) {
			t.Errorf("%q is the same as itself", a)
		}
	}
	if !Same(dotted("wWw.A."), dotted("Www.a.")) || Same(raw("@"), raw("`")) || Same(raw("["), raw("{")) || Same(raw("\xc4"), raw("\xe4")) {
		t.Error("bytes other than letters are the same, or letters are not")
	}
}

func modelLower(s string) string {
	b := []byte(s)
	for i := range b {
		if b[i] >= 65 && b[i] <= 90 {
			b[i] += 32
		}
	}
	return string(b)
}

// modelParts are the labels of a name in lower case, the last one first; for what is not a name, none and false.
func modelParts(n string) ([]string, bool) {
	labels, ok := model(modelLower(n))
	slices.Reverse(labels)
	return labels, ok && len(n) <= 255
}

func TestUnderAndShared(t *testing.T) {
	all := append(names(), notNames()...)
	for _, a := range all {
		for _, b := range all {
			ours, ok := modelParts(a)
			theirs, too := modelParts(b)
			shared := 0
			for shared < min(len(ours), len(theirs)) && ours[shared] == theirs[shared] {
				shared++
			}
			under := ok && too && shared == len(theirs)
			if !ok || !too {
				shared = -1
			}
			if got := Shared(a, b); got != shared {
				t.Errorf("Shared(%q, %q) is %d, want %d", a, b, got, shared)
			}
			if got := Under(a, b); got != under {
				t.Errorf("Under(%q, %q) is %v", a, b, got)
			}
		}
	}
}

func TestUnderAndSharedOfKnownNames(t *testing.T) {
	for _, c := range []struct {
		n, zone string
		under   bool
		shared  int
	}{
		{"www.A.", "a.", true, 1},
		{"www.a.", "b.A.", false, 1},
		{"a.", "www.a.", false, 1},
		{"a.", "A.", true, 1},
		{".", ".", true, 0},
		{"a.", ".", true, 0},
		{".", "a.", false, 0},
		{"www.aa.", "a.", false, 0},
		{"www.a.", "ww.a.", false, 1},
		{"a.b.c.", "a.x.c.", false, 1},
		{"x.a.b.", "a.b.", true, 2},
		{"a.b.x.", "a.b.", false, 0},
	} {
		n, zone := dotted(c.n), dotted(c.zone)
		if got := Under(n, zone); got != c.under {
			t.Errorf("Under(%s, %s) is %v", c.n, c.zone, got)
		}
		if Shared(n, zone) != c.shared || Shared(zone, n) != c.shared {
			t.Errorf("Shared(%s, %s) is %d and %d, want %d", c.n, c.zone, Shared(n, zone), Shared(zone, n), c.shared)
		}
	}
	// The bytes at the end agree, but the zone begins within a label.
	if n := raw("x\x01a"); Under(n, raw("a")) || Shared(n, raw("a")) != 0 {
		t.Errorf("%q is under a zone that begins within its label", n)
	}
}

func TestCut(t *testing.T) {
	for _, n := range names() {
		labels, _ := model(n)
		for depth := -2; depth <= len(labels)+2; depth++ {
			want := raw(labels[len(labels)-min(max(depth, 0), len(labels)):]...)
			if got := Cut(n, depth); got != want {
				t.Errorf("Cut(%q, %d) is %q, want %q", n, depth, got, want)
			}
		}
		for _, depth := range []int{math.MinInt, math.MinInt + 1, -1 << 32} {
			if got := Cut(n, depth); got != "\x00" {
				t.Errorf("Cut(%q, %d) is %q", n, depth, got)
			}
		}
		for _, depth := range []int{128, 255, 1 << 32, math.MaxInt} {
			if got := Cut(n, depth); got != n {
				t.Errorf("Cut(%q, %d) is %q", n, depth, got)
			}
		}
	}
	for _, n := range notNames() {
		for _, depth := range []int{math.MinInt, -1, 0, 1, 2, 300, math.MaxInt} {
			if got := Cut(n, depth); got != "" {
				t.Errorf("Cut(%q, %d) is %q", n, depth, got)
			}
		}
	}
	if got := Cut(dotted("www.A."), 1); got != dotted("A.") {
		t.Errorf("Cut(www.A., 1) is %q", got)
	}
}

func TestLess(t *testing.T) {
	all := append(names(), notNames()...)
	for _, a := range all {
		for _, b := range all {
			ours, ok := modelParts(a)
			theirs, too := modelParts(b)
			if got, want := Less(a, b), ok && too && slices.Compare(ours, theirs) < 0; got != want {
				t.Errorf("Less(%q, %q) is %v", a, b, got)
			}
		}
	}
}

// The names stand in their order; those of a line are the same.
func TestLessOfKnownNames(t *testing.T) {
	rising := [][]string{
		{dotted(".")}, {raw("\x00")}, {raw("-")}, {raw("[")}, {raw("_")}, {dotted("a."), dotted("A.")}, {dotted("a.a."), dotted("A.A.")}, {dotted("b.a."), dotted("B.a.")}, {dotted("a.b.a."), dotted("a.B.a.")},
		{dotted("c.a.")}, {dotted("aa.")}, {dotted("ab.")}, {dotted("b."), dotted("B.")}, {dotted("z.b.")}, {dotted("a.bb.")}, {dotted("z."), dotted("Z.")}, {raw("\x7f")}, {raw("\x80")}, {raw("\xff")},
	}
	for i, line := range rising {
		for j, other := range rising {
			for _, a := range line {
				for _, b := range other {
					if got := Less(a, b); got != (i < j) {
						t.Errorf("Less(%q, %q) is %v", a, b, got)
					}
				}
			}
		}
	}
}

// P3.3

func TestText(t *testing.T) {
	for n, want := range map[string]string{
		"\x00":                      ".",
		"\x03www\x01a\x00":          "www.a.",
		"\x03WwW\x01A\x00":          "WwW.A.",
		raw("."):                    "\\..",
		raw("a.b", "c"):             "a\\.b.c.",
		raw("\\"):                   "\\\\.",
		raw("\\046", "b"):           "\\\\046.b.",
		raw("\x00"):                 "\\000.",
		raw(" ", "!", "~", "\x7f"):  "\\032.!.~.\\127.",
		raw("\x09\xff", "\xc3\xa4"): "\\009\\255.\\195\\164.",
		raw("0", "1a", "\"(;@$)'"):  "0.1a.\"(;@$)'.",
		raw(x(63)):                  x(63) + ".",
		long()[255]:                 x(63) + "." + x(63) + "." + x(63) + "." + x(61) + ".",
	} {
		if got := Text(n); got != want {
			t.Errorf("Text(%q) is %q, want %q", n, got, want)
		}
	}
	for _, n := range notNames() {
		if got := Text(n); got != "" {
			t.Errorf("Text(%q) is %q", n, got)
		}
	}
}

// digits are three of them.
func digits(n int) string {
	s := strconv.Itoa(n)
	return strings.Repeat("0", 3-len(s)) + s
}

func TestEachByteInATextAndBack(t *testing.T) {
	for b := range 256 {
		char := string([]byte{byte(b)})
		n := raw("a"+char+"0", char)
		want := char
		switch {
		case char == "." || char == "\\":
			want = "\\" + char
		case b < 33 || b > 126:
			want = "\\" + digits(b)
		}
		if got := Text(n); got != "a"+want+"0."+want+"." {
			t.Errorf("Text(%q) is %q", n, got)
		}
		forms := []string{"\\" + digits(b)}
		if b < '0' || b > '9' {
			forms = append(forms, "\\"+char)
		}
		if char != "." && char != "\\" {
			forms = append(forms, char)
		}
		for _, form := range forms {
			for _, end := range []string{"", "."} {
				text := "a" + form + "0." + form + end
				if got, err := Parse(text); got != n || err != api.OK {
					t.Errorf("Parse(%q) is %q, %d, want %q", text, got, err, n)
				}
			}
		}
	}
}

func TestParse(t *testing.T) {
	for text, want := range map[string]string{
		".":               "\x00",
		"a":               raw("a"),
		"a.":              raw("a"),
		"WwW.a":           raw("WwW", "a"),
		"\\046.b":         raw(".", "b"),
		"\\\\046.b":       raw("\\046", "b"),
		"\\.":             raw("."),
		"\\..":            raw("."),
		"a\\.":            raw("a."),
		"a\\.b.c":         raw("a.b", "c"),
		"\\\\.":           raw("\\"),
		"\\\\..":          "",
		"\\000":           raw("\x00"),
		"\\0000":          raw("\x000"),
		"\\255.":          raw("\xff"),
		"\\a\\b":          raw("ab"),
		"\\ \\\x00\\\xff": raw(" \x00\xff"),
		" \x00\xff":       raw(" \x00\xff"),
		"ä":               raw("\xc3\xa4"),
		"0.1":             raw("0", "1"),
		x(63):             raw(x(63)),
		strings.Repeat("\\120", 63) + "." + x(63): raw(x(63), x(63)),
	} {
		wrong := api.OK
		if want == "" {
			wrong = api.ErrForm
		}
		if got, err := Parse(text); got != want || err != wrong {
			t.Errorf("Parse(%q) is %q, %d, want %q, %d", text, got, err, want, wrong)
		}
	}
}

func TestParseOfWrongTexts(t *testing.T) {
	for _, text := range []string{
		"", "..", "...", ".a", ".a.", "a..", "a..b", "a.b..", "\\", "a\\", "a.\\", "\\\\\\", ".\\",
		"\\0", "\\04", "\\4", "a\\25", "\\04.", "\\0.6", "\\04a", "\\4a6", "\\0 6", "\\04\\", "\\00\xb6", "\\2\\55", "\\25/", "\\25:",
		x(64), x(64) + ".", "a." + x(64) + ".b", strings.Repeat("\\120", 64), strings.Repeat("\\.", 64), x(63) + "\\120", x(1 << 20), strings.Repeat(".", 1<<20), strings.Repeat("a", 63) + "\\",
	} {
		if got, err := Parse(text); got != "" || err != api.ErrForm {
			t.Errorf("Parse of %d bytes %.40q is %q, %d", len(text), text, got, err)
		}
	}
	for n := range 1000 {
		want := api.OK
		if n > 255 {
			want = api.ErrForm
		}
		if _, err := Parse("\\" + digits(n)); err != want {
			t.Errorf("Parse(\\%s) answers %d, want %d", digits(n), err, want)
		}
	}
}

func TestParseSizes(t *testing.T) {
	fits := x(63) + "." + x(63) + "." + x(63) + "." + x(61)
	long := x(63) + "." + x(63) + "." + x(63) + "." + x(62)
	deep := strings.Repeat("a.", 127)
	escapes := strings.Repeat(strings.Repeat("\\120", 60)+".", 4)
	for text, want := range map[string]api.Errno{
		fits: api.OK, fits + ".": api.OK, long: api.ErrSize, long + ".": api.ErrSize, long + "..": api.ErrForm,
		deep: api.OK, deep + "a": api.ErrSize, escapes: api.OK, escapes + x(9): api.OK, escapes + x(10): api.ErrSize,
		// A wrong label counts ahead of the size, wherever it stands.
		long + "x.a..": api.ErrForm, long + "." + x(64): api.ErrForm, long + ".\\": api.ErrForm, long + ".\\256": api.ErrForm, "." + long: api.ErrForm, x(64) + "." + long: api.ErrForm, long + "..a": api.ErrForm,
		strings.Repeat("a.", 1<<20): api.ErrSize, strings.Repeat("a.", 1<<20) + ".": api.ErrForm,
	} {
		got, err := Parse(text)
		if err != want || (err != api.OK) != (got == "") {
			t.Errorf("Parse of %d bytes that end with %q answers %d bytes and %d, want %d", len(text), text[max(0, len(text)-6):], len(got), err, want)
		}
	}
	if got, _ := Parse(fits); len(got) != 255 {
		t.Errorf("the longest name has %d bytes", len(got))
	}
}

// modelParse is the text's labels by a second way: the escapes are read first, and dots are told from the other bytes by numbers above 255.
func modelParse(text string) (string, api.Errno) {
	const dot = 256
	var bytes []int
	for text != "" {
		switch {
		case text[0] == '.':
			bytes, text = append(bytes, dot), text[1:]
		case text[0] != '\\':
			bytes, text = append(bytes, int(text[0])), text[1:]
		case len(text) >= 2 && !strings.Contains("0123456789", text[1:2]):
			bytes, text = append(bytes, int(text[1])), text[2:]
		default:
			if len(text) < 4 || strings.Trim(text[1:4], "0123456789") != "" {
				return "", api.ErrForm
			}
			n, _ := strconv.Atoi(text[1:4])
			if n > 255 {
				return "", api.ErrForm
			}
			bytes, text = append(bytes, n), text[4:]
		}
	}
	if len(bytes) == 1 && bytes[0] == dot {
		return "\x00", api.OK
	}
	if len(bytes) == 0 || bytes[len(bytes)-1] != dot {
		bytes = append(bytes, dot)
	}
	n, label := "", ""
	for _, b := range bytes {
		if b != dot {
			label += string([]byte{byte(b)})
			continue
		}
		if label == "" || len(label) > 63 {
			return "", api.ErrForm
		}
		n, label = n+string([]byte{byte(len(label))})+label, ""
	}
	if len(n) > 254 {
		return "", api.ErrSize
	}
	return n + "\x00", api.OK
}

func TestParseOfAllShortTexts(t *testing.T) {
	for _, text := range texts(".\\025a\x00", 6) {
		got, err := Parse(text)
		if want, wrong := modelParse(text); got != want || err != wrong {
			t.Fatalf("Parse(%q) is %q, %d, want %q, %d", text, got, err, want, wrong)
		}
	}
}

func TestParseOfRandomTexts(t *testing.T) {
	r := rand.New(rand.NewSource(1))
	parts := []string{".", "\\.", "\\\\", "\\046", "a", "B", "-", " ", "\xff", x(20), x(60), "\\120", ".x.", "\\255", "\\x"}
	for range 20000 {
		text := ""
		for range r.Intn(25) {
			text += parts[r.Intn(len(parts))]
		}
		got, err := Parse(text)
		if want, wrong := modelParse(text); got != want || err != wrong {
			t.Fatalf("Parse(%q) is %q, %d, want %q, %d", text, got, err, want, wrong)
		}
	}
}

// P3.4

// randomLabels fit in a name.
func randomLabels(r *rand.Rand) []string {
	var out []string
	for left := 254; ; {
		n := 1 + r.Intn(1+r.Intn(63))
		if left -= 1 + n; left < 0 || r.Intn(12) == 0 {
			return out
		}
		b := make([]byte, n)
		r.Read(b)
		out = append(out, string(b))
	}
}

func TestTextsAndLabelsComeBack(t *testing.T) {
	r := rand.New(rand.NewSource(2))
	for range 5000 {
		labels := randomLabels(r)
		n, err := Make(labels...)
		if err != api.OK || n != raw(labels...) || Check(n) != api.OK {
			t.Fatalf("Make(%q) is %q, %d", labels, n, err)
		}
		if got, err := Labels(n); err != api.OK || !slices.Equal(got, labels) {
			t.Fatalf("Labels of Make(%q) are %q, %d", labels, got, err)
		}
		text := Text(n)
		for _, form := range []string{text, strings.TrimSuffix(text, ".")} {
			if form == "" { // the root's text is nothing but its dot
				continue
			}
			if got, err := Parse(form); got != n || err != api.OK {
				t.Fatalf("Parse(%q) is %q, %d, want %q", form, got, err, n)
			}
		}
	}
	for _, n := range names() {
		if got, err := Parse(Text(n)); got != n || err != api.OK {
			t.Errorf("Parse(Text(%q)) is %q, %d", n, got, err)
		}
	}
}

func TestUnderIsTransitive(t *testing.T) {
	all := names()
	for _, a := range all {
		if !Under(a, a) || !Under(a, "\x00") {
			t.Errorf("%q is not under itself and the root", a)
		}
		for depth := range Depth(a) + 1 {
			if !Under(a, Cut(a, depth)) {
				t.Errorf("%q is not under its last %d labels", a, depth)
			}
		}
		for _, b := range all {
			for _, c := range all {
				if Under(a, b) && Under(b, c) && !Under(a, c) {
					t.Errorf("%q is under %q, which is under %q, but not under that", a, b, c)
				}
			}
		}
	}
}

func TestLessIsAnOrder(t *testing.T) {
	all := names()
	for _, a := range all {
		for _, b := range all {
			is := 0
			for _, holds := range []bool{Less(a, b), Less(b, a), Same(a, b)} {
				if holds {
					is++
				}
			}
			if is != 1 {
				t.Errorf("of %q and %q, %d of less, greater and the same hold", a, b, is)
			}
			for _, c := range all {
				if Less(a, b) && Less(b, c) && !Less(a, c) {
					t.Errorf("%q, %q and %q are in no order", a, b, c)
				}
			}
		}
	}
}

// P1, R4

func TestAnyBytesEnd(t *testing.T) {
	r := rand.New(rand.NewSource(3))
	great := []string{strings.Repeat("\x3f"+x(63), 1<<14) + "\x00", x(1 << 20), strings.Repeat("\\", 1<<20), strings.Repeat("\xff", 1<<20)}
	for i := range 3000 {
		b := make([]byte, r.Intn(40))
		for k := range b {
			b[k] = "\x00\x01\x02\x05\x3f\x40\xc0.\\a19"[r.Intn(12)]
		}
		a, other := string(b), string(b[len(b)/2:])
		if i < len(great) {
			a = great[i]
		}
		for range 2 {
			Make(a, other)
			Labels(a)
			Depth(a)
			Lower(a)
			Same(a, other)
			Under(a, other)
			Under(other, a)
			Cut(a, len(b)-20)
			Shared(a, other)
			Less(a, other)
			Text(a)
			Parse(a)
		}
		if i < len(great) && (Depth(a) != -1 || Shared(a, a) != -1 || Less(a, a) || Under(a, a) || Text(a) != "" || Cut(a, 1) != "") {
			t.Errorf("%d bytes are taken for a name", len(a))
		}
	}
}

func TestSameCallsAnswerTheSame(t *testing.T) {
	for range 3 {
		n, err := Make("www", "a")
		if n != "\x03www\x01a\x00" || err != api.OK || Text(n) != "www.a." || Depth(n) != 2 || !Under(n, dotted("A.")) || Cut(n, 1) != dotted("a.") {
			t.Fatal("a second call answers something else")
		}
	}
}
