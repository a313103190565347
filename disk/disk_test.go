package disk

import (
	"math"
	"math/rand"
	"runtime"
	"slices"
	"strings"
	"testing"
	"unsafe"

	"fingerpost/api"
)

// gives tells of a call that returned another error.
func gives(t *testing.T, what string, got, want api.Errno) {
	t.Helper()
	if got != want {
		t.Errorf("%s is %d, want %d", what, got, want)
	}
}

// counts tells of a call that returned another number.
func counts(t *testing.T, what string, got, want int) {
	t.Helper()
	if got != want {
		t.Errorf("%s is %d, want %d", what, got, want)
	}
}

// on tells of a disk that has no power, or has some, against what is wanted.
func on(t *testing.T, what string, d *Disk, want bool) {
	t.Helper()
	if got := d.On(); got != want {
		t.Errorf("%s: On is %v", what, got)
	}
}

// reads tells of a file with other bytes.
func reads(t *testing.T, what string, d *Disk, name, want string) {
	t.Helper()
	if got, err := d.Read(name); got != want || err != api.OK {
		t.Errorf("%s: %q is %q, %d, want %q", what, name, got, err, want)
	}
}

// lacks tells of a file that exists.
func lacks(t *testing.T, what string, d *Disk, name string) {
	t.Helper()
	if got, err := d.Read(name); got != "" || err != api.ErrNone {
		t.Errorf("%s: %q is %q, %d", what, name, got, err)
	}
}

// lists tells of a disk with other names.
func lists(t *testing.T, what string, d *Disk, want ...string) {
	t.Helper()
	if got := d.Names(); !slices.Equal(got, want) {
		t.Errorf("%s: the names are %q, want %q", what, got, want)
	}
}

// remains tells of a disk of which, after a crash with these picks, something else remains of the file a. The disk itself stays.
func remains(t *testing.T, what string, d *Disk, want string, picks ...int) {
	t.Helper()
	c := d.Copy()
	c.Crash(picks...)
	if got, err := c.Read("a"); got != want || err != api.OK {
		t.Errorf("%s: Crash(%v) leaves %q, %d, want %q", what, picks, got, err, want)
	}
}

// inverted is a string with all bits of its last byte inverted.
func inverted(s string) string {
	last := len(s) - 1
	return s[:last] + string([]byte{^s[last]})
}

// with is a disk with much room whose file a has durable bytes and others behind them.
func with(firm, loose string) *Disk {
	d := New(1 << 20)
	d.Append("a", firm)
	d.Sync("a")
	d.Append("a", loose)
	return d
}

// wrongNames are what no file is named.
func wrongNames() []string {
	return []string{"", strings.Repeat("n", 41), strings.Repeat("\x00", 42), strings.Repeat("long", 1<<10)}
}

// P9.1: New, Append and Read

func TestNewIsEmpty(t *testing.T) {
	d := New(7)
	if d == nil {
		t.Fatal("New is nil")
	}
	on(t, "New", d, true)
	lists(t, "New", d)
	counts(t, "Used", d.Used(), 0)
	counts(t, "Steps", d.Steps(), 0)
	lacks(t, "New", d, "a")
	gives(t, "Append of what fits", d.Append("a", "1234567"), api.OK)
	gives(t, "Append of what does not fit", d.Append("b", "8"), api.ErrFull)
}

func TestRoomOfNew(t *testing.T) {
	for _, room := range []int{0, -1, -7, math.MinInt} {
		d := New(room)
		gives(t, "Append of a byte", d.Append("a", "x"), api.ErrFull)
		lacks(t, "Append of a byte", d, "a")
		gives(t, "Append of nothing", d.Append("a", ""), api.OK)
		reads(t, "Append of nothing", d, "a", "")
	}
	d := New(math.MaxInt)
	gives(t, "Append of much", d.Append("a", strings.Repeat("x", 1<<20)), api.OK)
	gives(t, "Append of more", d.Append("b", strings.Repeat("y", 1<<20)), api.OK)
	counts(t, "Used", d.Used(), 1<<21)
}

func TestAppend(t *testing.T) {
	d := New(100)
	gives(t, "Append", d.Append("a", "xy"), api.OK)
	gives(t, "Append", d.Append("b", "\x00\xff"), api.OK)
	gives(t, "Append behind others", d.Append("a", "\n\x80z"), api.OK)
	gives(t, "Append of nothing", d.Append("a", ""), api.OK)
	gives(t, "Append of nothing to a new file", d.Append("c", ""), api.OK)
	reads(t, "Append", d, "a", "xy\n\x80z")
	reads(t, "Append", d, "b", "\x00\xff")
	reads(t, "Append", d, "c", "")
	lists(t, "Append", d, "a", "b", "c")
	counts(t, "Used", d.Used(), 7)
	counts(t, "Steps", d.Steps(), 5)
	lacks(t, "a name with another case", d, "A")
}

func TestAppendIsNotDurable(t *testing.T) {
	remains(t, "Append to a new file", with("", "abc"), "")
	remains(t, "Append to a new file", with("", "abc"), "abc", 3)
	remains(t, "Append to a durable file", with("xyz", "abc"), "xyz")
	remains(t, "Append of nothing", with("xyz", ""), "xyz", 3, 1)
	d := New(9)
	d.Append("a", "")
	remains(t, "a created file is durable", d, "", 5, 5)
}

// P9.1: names

func TestSizesOfNames(t *testing.T) {
	d := New(1000)
	for _, name := range []string{"a", "\x00", strings.Repeat("n", 39), strings.Repeat("\xff", 40)} {
		lacks(t, "ahead of Append", d, name)
		gives(t, "Append", d.Append(name, "x"), api.OK)
		gives(t, "Sync", d.Sync(name), api.OK)
		gives(t, "Cut", d.Cut(name, 1), api.OK)
		gives(t, "Rename", d.Rename(name, name), api.OK)
		reads(t, "a name that may be", d, name, "x")
		gives(t, "Rename", d.Rename(name, strings.Repeat("m", 40)), api.OK)
		gives(t, "Remove", d.Remove(strings.Repeat("m", 40)), api.OK)
	}
	lists(t, "all are removed", d)
}

func TestWrongNames(t *testing.T) {
	for _, name := range wrongNames() {
		d := with("xy", "z")
		gives(t, "Append", d.Append(name, "x"), api.ErrArg)
		gives(t, "Append of nothing", d.Append(name, ""), api.ErrArg)
		if got, err := d.Read(name); got != "" || err != api.ErrArg {
			t.Errorf("Read(%q) is %q, %d", name, got, err)
		}
		gives(t, "Sync", d.Sync(name), api.ErrArg)
		gives(t, "Rename of it", d.Rename(name, "b"), api.ErrArg)
		gives(t, "Rename to it", d.Rename("a", name), api.ErrArg)
		gives(t, "Rename of it to itself", d.Rename(name, name), api.ErrArg)
		gives(t, "Remove", d.Remove(name), api.ErrArg)
		gives(t, "Cut", d.Cut(name, 0), api.ErrArg)
		lists(t, "wrong names", d, "a")
		counts(t, "Steps", d.Steps(), 3)
	}
}

func TestNoSuchFile(t *testing.T) {
	d := with("xy", "z")
	lacks(t, "no such file", d, "b")
	gives(t, "Sync", d.Sync("b"), api.ErrNone)
	gives(t, "Rename", d.Rename("b", "a"), api.ErrNone)
	gives(t, "Rename to a new name", d.Rename("b", "c"), api.ErrNone)
	gives(t, "Rename to itself", d.Rename("b", "b"), api.ErrNone)
	gives(t, "Remove", d.Remove("b"), api.ErrNone)
	gives(t, "Cut", d.Cut("b", 0), api.ErrNone)
	lists(t, "no such file", d, "a")
	reads(t, "no such file", d, "a", "xyz")
	counts(t, "Steps", d.Steps(), 3)
}

// someNames are names in increasing order, many of which begin with others.
func someNames() []string {
	return []string{"\x00", "\x00\x00", "\x00a", " ", "0", "10", "9", "A", "B", "a", "a\x00", "aa", "ab", "b", "wal", "wal.new", "z", "\x7f", "\x80", "\xc3\xa4", "\xff", "\xff\xff"}
}

func TestNamesAreInOrder(t *testing.T) {
	want := someNames()
	for seed := range int64(50) {
		r := rand.New(rand.NewSource(seed))
		d, some := New(9), slices.Clone(want[:seed%int64(len(want)+1)])
		for _, i := range r.Perm(len(some)) {
			d.Append(some[i], "")
		}
		for range 5 {
			lists(t, "many files", d, some...)
		}
	}
}

func TestManyFiles(t *testing.T) {
	const many = 3000
	d, want := New(many), []string(nil)
	for i := range many {
		name := strings.Repeat("n", i%40) + string([]byte{byte(i >> 8), byte(i)})
		if len(name) <= 40 {
			d.Append(name, "x")
			want = append(want, name)
		}
	}
	slices.Sort(want)
	lists(t, "many files", d, want...)
	counts(t, "Used", d.Used(), len(want))
}

// P9.1: the capacity

func TestRoomIsOfAllFiles(t *testing.T) {
	d := New(10)
	gives(t, "Append", d.Append("a", "1234"), api.OK)
	gives(t, "Append of one too many", d.Append("b", "1234567"), api.ErrFull)
	lists(t, "a refused file", d, "a")
	gives(t, "Append of just as many", d.Append("b", "123456"), api.OK)
	gives(t, "Append when full", d.Append("a", "x"), api.ErrFull)
	gives(t, "Append to a new file when full", d.Append("c", "x"), api.ErrFull)
	gives(t, "Append of nothing when full", d.Append("c", ""), api.OK)
	gives(t, "Append of much when full", d.Append("c", strings.Repeat("x", 1<<20)), api.ErrFull)
	reads(t, "full", d, "a", "1234")
	reads(t, "full", d, "b", "123456")
	reads(t, "full", d, "c", "")
	counts(t, "Used", d.Used(), 10)
	counts(t, "Steps", d.Steps(), 3)
}

func TestRoomIsMade(t *testing.T) {
	for what, c := range map[string]struct {
		free int
		call func(d *Disk)
	}{
		"nothing":     {0, func(d *Disk) {}},
		"Sync":        {0, func(d *Disk) { d.Sync("a") }},
		"Rename":      {0, func(d *Disk) { d.Rename("a", "c") }},
		"Rename same": {0, func(d *Disk) { d.Rename("a", "a") }},
		"Rename over": {6, func(d *Disk) { d.Rename("a", "b") }},
		"Remove":      {4, func(d *Disk) { d.Remove("a") }},
		"Cut":         {5, func(d *Disk) { d.Cut("b", 1) }},
		"Cut to all":  {0, func(d *Disk) { d.Cut("b", 6) }},
		"Crash":       {10, func(d *Disk) { d.Crash() }},
		"Crash some":  {7, func(d *Disk) { d.Crash(1, 1, 2) }},
		"Limit":       {2, func(d *Disk) { d.Limit(12) }},
		"Copy":        {0, func(d *Disk) { d.Copy().Remove("a") }},
	} {
		d := New(10)
		d.Append("a", "1234")
		d.Append("b", "123456")
		c.call(d)
		gives(t, what+", then Append of one too many", d.Append("z", strings.Repeat("x", c.free+1)), api.ErrFull)
		gives(t, what+", then Append of just as many", d.Append("z", strings.Repeat("x", c.free)), api.OK)
	}
}

func TestLimit(t *testing.T) {
	d := with("1234", "56")
	for _, room := range []int{5, 1, 0, -1, math.MinInt} {
		d.Limit(room)
		reads(t, "existing bytes remain", d, "a", "123456")
		counts(t, "Used", d.Used(), 6)
		gives(t, "Append", d.Append("a", "x"), api.ErrFull)
		gives(t, "Append of nothing: all files have too many bytes", d.Append("a", ""), api.ErrFull)
		gives(t, "Append to a new file", d.Append("b", ""), api.ErrFull)
		gives(t, "Sync", d.Copy().Sync("a"), api.OK)
		remains(t, "Limit", d, "12345", 1)
	}
	lists(t, "Limit", d, "a")
	d.Limit(6)
	gives(t, "Append of nothing when full", d.Append("b", ""), api.OK)
	gives(t, "Append when full", d.Append("b", "x"), api.ErrFull)
	d.Limit(7)
	gives(t, "Append", d.Append("b", "x"), api.OK)
	d.Limit(math.MaxInt)
	gives(t, "Append with all the room", d.Append("b", "yz"), api.OK)
	d.Limit(-5)
	d.Remove("a")
	d.Remove("b")
	gives(t, "Append with a negative limit", d.Append("a", ""), api.OK)
	gives(t, "Append with a negative limit", d.Append("a", "x"), api.ErrFull)
	counts(t, "Steps: Limit is none", d.Steps(), 3+1+1+1+2+1)
}

// P9.1: Sync, Rename, Remove and Cut

func TestSync(t *testing.T) {
	d := with("", "abc")
	d.Append("b", "def")
	gives(t, "Sync", d.Sync("a"), api.OK)
	remains(t, "Sync", d, "abc")
	remains(t, "Sync", d, "abc", 2, 1)
	d.Append("a", "gh")
	remains(t, "what comes behind Sync", d, "abc")
	remains(t, "what comes behind Sync", d, "abcg", 1)
	gives(t, "Sync again", d.Sync("a"), api.OK)
	gives(t, "Sync of what is durable", d.Sync("a"), api.OK)
	remains(t, "Sync again", d, "abcgh")
	counts(t, "Steps", d.Steps(), 3+1+1+1+2)
	d.Crash()
	reads(t, "Sync of another file", d, "b", "")
}

func TestRename(t *testing.T) {
	d := with("xy", "z")
	gives(t, "Rename", d.Rename("a", "b"), api.OK)
	lists(t, "Rename", d, "b")
	lacks(t, "Rename", d, "a")
	reads(t, "Rename", d, "b", "xyz")
	gives(t, "Append", d.Append("a", "uvw"), api.OK)
	gives(t, "Rename over another", d.Rename("b", "a"), api.OK)
	lists(t, "Rename over another", d, "a")
	reads(t, "Rename over another", d, "a", "xyz")
	counts(t, "Used", d.Used(), 3)
	remains(t, "the same bytes are durable", d, "xy")
	remains(t, "the same bytes are durable", d, "xyz", 1)
	counts(t, "Steps", d.Steps(), 3+3)
}

func TestRenameOverDurable(t *testing.T) {
	d := with("", "xyz")
	d.Append("b", "uvwuvw")
	d.Sync("b")
	d.Rename("a", "b")
	d.Rename("b", "a")
	remains(t, "the other file's durable bytes are gone", d, "")
	remains(t, "the other file's durable bytes are gone", d, "xy", 2)
}

func TestRenameToItself(t *testing.T) {
	d := with("xy", "z")
	gives(t, "Rename to itself", d.Rename("a", "a"), api.OK)
	lists(t, "Rename to itself", d, "a")
	reads(t, "Rename to itself", d, "a", "xyz")
	remains(t, "Rename to itself", d, "xy")
	remains(t, "Rename to itself", d, "xyz", 1)
	counts(t, "it is a step", d.Steps(), 4)
}

func TestRemove(t *testing.T) {
	d := with("xy", "z")
	d.Append("b", "uv")
	gives(t, "Remove", d.Remove("a"), api.OK)
	lists(t, "Remove", d, "b")
	lacks(t, "Remove", d, "a")
	counts(t, "Used", d.Used(), 2)
	gives(t, "Remove again", d.Remove("a"), api.ErrNone)
	gives(t, "Append", d.Append("a", "12"), api.OK)
	reads(t, "a file of that name again", d, "a", "12")
	remains(t, "nothing of it is durable", d, "")
	counts(t, "Steps", d.Steps(), 6)
}

func TestCut(t *testing.T) {
	for n := range 6 {
		d := with("xyz", "uv")
		gives(t, "Cut", d.Cut("a", n), api.OK)
		reads(t, "Cut", d, "a", "xyzuv"[:n])
		counts(t, "Used", d.Used(), n)
		counts(t, "Steps", d.Steps(), 4)
		firm := min(n, 3)
		remains(t, "those are durable that were", d, "xyz"[:firm])
		remains(t, "and no others", d, "xyzuv"[:n], n-firm)
		d.Append("a", "12")
		reads(t, "Cut, then Append", d, "a", "xyzuv"[:n]+"12")
		remains(t, "Cut, then Append", d, "xyz"[:firm])
	}
}

func TestCutOfTooMuch(t *testing.T) {
	d := with("xyz", "uv")
	d.Append("b", "1234567")
	for _, n := range []int{-1, -5, 6, 7, 1 << 40, math.MaxInt, math.MinInt} {
		gives(t, "Cut", d.Cut("a", n), api.ErrArg)
	}
	reads(t, "Cut", d, "a", "xyzuv")
	remains(t, "Cut", d, "xyz")
	counts(t, "Steps", d.Steps(), 4)
	gives(t, "Cut of another file", d.Cut("b", 7), api.OK)
}

// P9.1: the order of errors

func TestOrderOfErrors(t *testing.T) {
	long, much := strings.Repeat("n", 41), strings.Repeat("x", 1<<21)
	armed := func() *Disk { d := with("xy", "z"); d.Arm(0); return d }
	gives(t, "a wrong name, too much", armed().Append(long, much), api.ErrArg)
	gives(t, "too much", armed().Append("a", much), api.ErrFull)
	gives(t, "too much for a new file", armed().Append("b", much), api.ErrFull)
	gives(t, "neither", armed().Append("b", ""), api.ErrPower)
	gives(t, "a wrong name", armed().Sync(""), api.ErrArg)
	gives(t, "no file", armed().Sync("b"), api.ErrNone)
	gives(t, "neither", armed().Sync("a"), api.ErrPower)
	gives(t, "no file, a wrong name", armed().Rename("b", long), api.ErrArg)
	gives(t, "a wrong name", armed().Rename(long, "a"), api.ErrArg)
	gives(t, "no file", armed().Rename("b", "a"), api.ErrNone)
	gives(t, "neither", armed().Rename("a", "b"), api.ErrPower)
	gives(t, "neither", armed().Rename("a", "a"), api.ErrPower)
	gives(t, "a wrong name", armed().Remove(""), api.ErrArg)
	gives(t, "no file", armed().Remove("b"), api.ErrNone)
	gives(t, "neither", armed().Remove("a"), api.ErrPower)
	gives(t, "a wrong name, a negative number", armed().Cut(long, -1), api.ErrArg)
	gives(t, "no file, a negative number", armed().Cut("b", -1), api.ErrNone)
	gives(t, "no file, a great number", armed().Cut("b", 4), api.ErrNone)
	gives(t, "a negative number", armed().Cut("a", -1), api.ErrArg)
	gives(t, "a great number", armed().Cut("a", 4), api.ErrArg)
	gives(t, "neither", armed().Cut("a", 3), api.ErrPower)
}

// refuses tells of a disk of which a call does anything but return ErrPower, with right and with wrong arguments.
func refuses(t *testing.T, what string, d *Disk) {
	t.Helper()
	much := strings.Repeat("x", 1<<21)
	for _, name := range append(wrongNames(), "a", "b") {
		gives(t, what+": Append", d.Append(name, "x"), api.ErrPower)
		gives(t, what+": Append of much", d.Append(name, much), api.ErrPower)
		if got, err := d.Read(name); got != "" || err != api.ErrPower {
			t.Errorf("%s: Read(%q) is %q, %d", what, name, got, err)
		}
		gives(t, what+": Sync", d.Sync(name), api.ErrPower)
		gives(t, what+": Rename", d.Rename(name, "c"), api.ErrPower)
		gives(t, what+": Rename", d.Rename("a", name), api.ErrPower)
		gives(t, what+": Remove", d.Remove(name), api.ErrPower)
		gives(t, what+": Cut", d.Cut(name, 0), api.ErrPower)
		gives(t, what+": Cut", d.Cut(name, -1), api.ErrPower)
	}
	on(t, what, d, false)
}

// P9.2: Crash

// at is the index that a pick selects, by the chapter's words, of so many bytes and none.
func at(pick, loose int) int {
	if pick < 0 {
		pick = -(pick + 1)
	}
	return pick % (loose + 1)
}

// picks are numbers for a pick, with the greatest and the least.
func picks() []int {
	out := []int{math.MaxInt, math.MaxInt - 1, math.MinInt, math.MinInt + 1, 1 << 40}
	for p := -20; p <= 20; p++ {
		out = append(out, p)
	}
	return out
}

func TestCrashOfOneFile(t *testing.T) {
	for loose := range 5 {
		d := with("xyz", "uvw1"[:loose])
		remains(t, "no pick", d, "xyz")
		for _, p := range picks() {
			want := "xyzuvw1"[:3+at(p, loose)]
			remains(t, "one pick", d, want, p)
			for _, even := range []int{0, 2, -2, 4, math.MinInt, math.MaxInt - 1} {
				remains(t, "an even pick", d, want, p, even)
			}
			if want != "xyz" {
				want = inverted(want)
			}
			for _, odd := range []int{1, 3, -1, -3, math.MaxInt, math.MinInt + 1} {
				remains(t, "an odd pick", d, want, p, odd)
				remains(t, "picks that are left over", d, want, p, odd, 1, 1, 1)
			}
		}
	}
}

func TestEachByteIsInverted(t *testing.T) {
	for b := range 256 {
		s := string([]byte{byte(b)})
		remains(t, "a torn byte", with("xy", s+"z"), "xy"+inverted(s), 1, 1)
		remains(t, "a byte that is not torn", with("xy", s+"z"), "xy"+s, 1, 0)
	}
}

// three is a disk whose file b has no bytes that are not durable, while a has two, and c three of them.
func three() *Disk {
	d := New(100)
	d.Append("c", "")
	d.Append("c", "678")
	d.Append("b", "45")
	d.Sync("b")
	d.Append("a", "1")
	d.Sync("a")
	d.Append("a", "23")
	return d
}

func TestCrashOfThreeFiles(t *testing.T) {
	for _, c := range []struct {
		picks   []int
		a, b, c string
	}{
		{nil, "1", "45", ""},
		{[]int{2}, "123", "45", ""},
		{[]int{2, 0, 0, 0, 3, 0}, "123", "45", "678"},
		{[]int{2, 1, 0, 0, 3, 1}, inverted("123"), "45", inverted("678")},
		{[]int{1, 1, 7, 1, 2}, inverted("12"), "45", "67"},
		{[]int{1, 0, 0, 1, 2, 1, 1}, "12", "45", inverted("67")},
		{[]int{0, 1, 5, 5, 1, 0}, "1", "45", "6"},
		{[]int{0, 2, 0, 3, 3, 1}, "1", "45", inverted("678")},
		{[]int{3, 1, 0, 0, 4, 1}, "1", "45", ""},
		{[]int{-2, 0, -5, 0, -4, -1}, "12", "45", inverted("678")},
		{[]int{0, 0, 0, 0}, "1", "45", ""},
		{[]int{0, 0, 0, 0, 2}, "1", "45", "67"},
		{[]int{0, 0, 0, 0, 1, 1}, "1", "45", inverted("6")},
	} {
		d := three()
		d.Crash(c.picks...)
		reads(t, "crash", d, "a", c.a)
		reads(t, "crash", d, "b", c.b)
		reads(t, "crash", d, "c", c.c)
		counts(t, "Used", d.Used(), len(c.a+c.b+c.c))
		again := d.Copy()
		again.Crash(1, 1, 1, 1, 1, 1)
		reads(t, "what remains is durable", again, "a", c.a)
		reads(t, "what remains is durable", again, "b", c.b)
		reads(t, "what remains is durable", again, "c", c.c)
	}
}

func TestOrderOfNamesInCrash(t *testing.T) {
	all := someNames()
	for seed := range int64(20) {
		d := New(100)
		for _, i := range rand.New(rand.NewSource(seed)).Perm(len(all)) {
			d.Append(all[i], "12")
		}
		var picks []int
		for i := range all {
			picks = append(picks, i%3, i%2)
		}
		d.Crash(picks...)
		for i, name := range all {
			want := "12"[:i%3]
			if i%2 == 1 && want != "" {
				want = inverted(want)
			}
			reads(t, "in the order of the names", d, name, want)
		}
	}
}

func TestCrashTakesNoPicksAway(t *testing.T) {
	d, picks := three(), []int{2, 1, 0, 0, 3, 1}
	d.Crash(picks...)
	if !slices.Equal(picks, []int{2, 1, 0, 0, 3, 1}) {
		t.Errorf("the picks are %v now", picks)
	}
}

func TestFilesAreDurableAtOnce(t *testing.T) {
	d := New(100)
	d.Append("a", "")
	d.Append("b", "12")
	d.Sync("b")
	d.Rename("b", "c")
	d.Append("d", "34")
	d.Sync("d")
	d.Remove("d")
	d.Append("e", "567")
	d.Sync("e")
	d.Cut("e", 1)
	d.Append("f", "89")
	d.Crash()
	lists(t, "Crash", d, "a", "c", "e", "f")
	reads(t, "created", d, "a", "")
	reads(t, "renamed", d, "c", "12")
	reads(t, "cut", d, "e", "5")
	reads(t, "its bytes were not durable", d, "f", "")
}

func TestCrashKeepsTheRest(t *testing.T) {
	d := New(5)
	d.Append("a", "123")
	d.Crash(3)
	on(t, "Crash with power", d, true)
	counts(t, "Steps", d.Steps(), 1)
	gives(t, "Append of too much", d.Append("a", "456"), api.ErrFull)
	gives(t, "Append", d.Append("a", "45"), api.OK)
	remains(t, "Append after Crash", d, "123")
	reads(t, "Append after Crash", d, "a", "12345")
	New(5).Crash(1, 2, 3)
}

func TestCrashOfTheSchedule(t *testing.T) {
	d := with("x", "y")
	d.Arm(1)
	d.Crash()
	for range 20 {
		gives(t, "no loss of power is scheduled", d.Append("a", "z"), api.OK)
	}
	d.Arm(0)
	gives(t, "Append", d.Append("a", "1"), api.ErrPower)
	d.Arm(0)
	d.Crash(3)
	on(t, "Crash", d, true)
	reads(t, "Crash", d, "a", "xzzz")
	gives(t, "no loss of power is scheduled", d.Sync("a"), api.OK)
	counts(t, "Steps", d.Steps(), 3+20+1)
}

// P9.2: Copy

func TestCopyStandsAlike(t *testing.T) {
	for seed := range int64(300) {
		r := rand.New(rand.NewSource(seed))
		d := New(30)
		for range r.Intn(40) {
			anyCall(r).of(d)
		}
		twin := d.Copy()
		if got, want := state(twin), state(d); got != want {
			t.Fatalf("a copy is %q, want %q", got, want)
		}
		for range 40 {
			c := anyCall(r)
			if got, want := c.of(twin), c.of(d); got != want {
				t.Fatalf("%v of a copy is %v, want %v", c, got, want)
			}
			if got, want := state(twin), state(d); got != want {
				t.Fatalf("after %v a copy is %q, want %q", c, got, want)
			}
		}
	}
}

func TestCopyIsApart(t *testing.T) {
	for seed := range int64(300) {
		r := rand.New(rand.NewSource(seed))
		d := New(30)
		for range 20 {
			anyCall(r).of(d)
		}
		twin := d.Copy()
		want := state(d)
		for range 20 {
			anyCall(r).of(twin)
			if got := state(d); got != want {
				t.Fatalf("a call of a copy has changed the disk: %q, was %q", got, want)
			}
		}
		want = state(twin)
		for range 20 {
			anyCall(r).of(d)
			if got := state(twin); got != want {
				t.Fatalf("a call of the disk has changed its copy: %q, was %q", got, want)
			}
		}
	}
}

func TestCopyOfEachPart(t *testing.T) {
	d := with("xy", "z")
	d.Limit(4)
	d.Arm(2)
	c := d.Copy()
	counts(t, "Steps", c.Steps(), 3)
	gives(t, "Append of too much", c.Append("b", "12"), api.ErrFull)
	gives(t, "Append", c.Append("b", "1"), api.OK)
	lacks(t, "the disk itself", d, "b")
	gives(t, "Remove", c.Remove("a"), api.OK)
	gives(t, "the scheduled loss of power", c.Remove("b"), api.ErrPower)
	on(t, "the copy", c, false)
	on(t, "the disk itself", d, true)
	refuses(t, "a copy of what has no power", c.Copy())
	counts(t, "Steps of the disk itself", d.Steps(), 3)
	gives(t, "Sync", d.Sync("a"), api.OK)
	gives(t, "Sync", d.Sync("a"), api.OK)
	gives(t, "the scheduled loss of power", d.Sync("a"), api.ErrPower)
}

// P9.3

// step makes one step of each kind in turn.
func step(d *Disk, i int) api.Errno {
	switch i % 6 {
	case 0:
		return d.Append("b", "x")
	case 1:
		return d.Sync("b")
	case 2:
		return d.Rename("b", "c")
	case 3:
		return d.Cut("c", 1)
	case 4:
		return d.Rename("c", "c")
	}
	return d.Remove("c")
}

func TestArm(t *testing.T) {
	for ahead := range 6 {
		for steps := range 20 {
			d := with("x", "y")
			for i := range ahead {
				gives(t, "a step ahead of Arm", step(d, i), api.OK)
			}
			d.Arm(steps)
			on(t, "Arm", d, true)
			for i := range steps {
				gives(t, "a step", step(d, ahead+i), api.OK)
			}
			on(t, "the last step", d, true)
			counts(t, "Steps", d.Steps(), 3+ahead+steps)
			before := files(d)
			gives(t, "the step behind", step(d, ahead+steps), api.ErrPower)
			on(t, "the step behind", d, false)
			refuses(t, "no power", d)
			counts(t, "Steps", d.Steps(), 3+ahead+steps)
			d.Crash(1, 0, 1, 0)
			if after := files(d); after != before {
				t.Errorf("a call that returned ErrPower has made %q of %q", after, before)
			}
		}
	}
}

// files is what a disk's files have after a crash of which nothing is lost, put together.
func files(d *Disk) string {
	c, out := d.Copy(), ""
	c.Crash(1, 0, 1, 0, 1, 0)
	for _, name := range c.Names() {
		s, _ := c.Read(name)
		out += name + "=" + s + ";"
	}
	return out
}

func TestArmOfOddNumbers(t *testing.T) {
	for _, steps := range []int{0, -1, -2, math.MinInt} {
		d := with("x", "y")
		d.Arm(steps)
		on(t, "Arm", d, true)
		gives(t, "the next step", d.Append("a", "z"), api.ErrPower)
		refuses(t, "Arm", d)
	}
	for _, steps := range []int{math.MaxInt, math.MaxInt - 1, 1 << 40} {
		d := with("x", "y")
		d.Arm(steps)
		for range 100 {
			gives(t, "a step", d.Append("a", "z"), api.OK)
		}
	}
}

func TestWhatIsNoStep(t *testing.T) {
	d := with("x", "y")
	d.Arm(1)
	for range 3 {
		d.Append("", "x")
		d.Append("a", strings.Repeat("x", 1<<21))
		d.Sync("b")
		d.Rename("b", "a")
		d.Remove("b")
		d.Cut("a", 3)
		d.Cut("a", -1)
		d.Read("a")
		d.Read("b")
		d.Names()
		d.Used()
		d.Limit(9)
		d.Steps()
		d.On()
		d.Copy().Crash()
	}
	counts(t, "Steps", d.Steps(), 3)
	gives(t, "a step", d.Sync("a"), api.OK)
	counts(t, "Steps", d.Steps(), 4)
	reads(t, "Read behind the last step", d, "a", "xy")
	lacks(t, "Read behind the last step", d, "b")
	on(t, "Read behind the last step", d, true)
	gives(t, "the step behind", d.Sync("a"), api.ErrPower)
	counts(t, "Steps", d.Steps(), 4)
}

func TestArmReplaces(t *testing.T) {
	for first := range 5 {
		for second := range 5 {
			d := with("x", "y")
			d.Arm(first)
			for range min(first, 2) {
				d.Append("a", "z")
			}
			d.Arm(second)
			for range second {
				gives(t, "a step", d.Append("a", "z"), api.OK)
			}
			gives(t, "the step behind", d.Append("a", "z"), api.ErrPower)
		}
	}
}

func TestWithoutArm(t *testing.T) {
	d := New(1 << 20)
	for i := range 1000 {
		gives(t, "a step", d.Append("a", "z"), api.OK)
		counts(t, "Steps", d.Steps(), i+1)
	}
	on(t, "without Arm", d, true)
}

func TestWithoutPower(t *testing.T) {
	d := with("xy", "z")
	d.Append("b", "uv")
	d.Arm(0)
	d.Remove("a")
	lists(t, "without power", d, "a", "b")
	counts(t, "Used", d.Used(), 5)
	counts(t, "Steps", d.Steps(), 4)
	d.Arm(5)
	refuses(t, "Arm does not give power", d)
	d.Limit(6)
	refuses(t, "Limit does not give power", d)
	d.Crash(0, 0, 2, 1)
	on(t, "Crash", d, true)
	reads(t, "Crash", d, "a", "xy")
	reads(t, "Crash", d, "b", inverted("uv"))
	gives(t, "Limit without power", d.Append("a", "123"), api.ErrFull)
	gives(t, "Limit without power", d.Append("a", "12"), api.OK)
}

func TestNil(t *testing.T) {
	var d *Disk
	refuses(t, "nil", d)
	lists(t, "nil", d)
	counts(t, "Used", d.Used(), 0)
	counts(t, "Steps", d.Steps(), 0)
	d.Limit(5)
	d.Arm(5)
	d.Crash()
	d.Crash(1, 2, 3)
	refuses(t, "nil", d)
	if d.Copy() != nil {
		t.Error("Copy is not nil")
	}
}

func TestZeroIsNew(t *testing.T) {
	for seed := range int64(200) {
		r := rand.New(rand.NewSource(seed))
		zero, made := &Disk{}, New(0)
		if seed%2 == 0 {
			zero.Limit(30)
			made.Limit(30)
		}
		for range 60 {
			c := anyCall(r)
			if got, want := c.of(zero), c.of(made); got != want {
				t.Fatalf("%v of a zero disk is %v, of New(0) %v", c, got, want)
			}
			if got, want := state(zero), state(made); got != want {
				t.Fatalf("after %v a zero disk is %q, New(0) %q", c, got, want)
			}
		}
	}
	zero := (&Disk{}).Copy()
	on(t, "a copy of a zero disk", zero, true)
	gives(t, "Append", zero.Append("a", "x"), api.ErrFull)
	gives(t, "Append of nothing", zero.Append("a", ""), api.OK)
}

// Rules

func TestArgumentsAreNotShared(t *testing.T) {
	memory := []byte("name, bytes")
	all := unsafe.String(&memory[0], len(memory))
	d := New(100)
	d.Append(all[:4], all[6:])
	d.Append("old", "x")
	d.Rename("old", all[:5])
	names := d.Names()
	memory[0], memory[6] = 'x', 'y'
	reads(t, "its owner has changed it", d, "name", "bytes")
	reads(t, "its owner has changed it", d, "name,", "x")
	lists(t, "its owner has changed it", d, "name", "name,")
	if !slices.Equal(names, []string{"name", "name,"}) {
		t.Errorf("the names that were answered are %q now", names)
	}
}

func TestResultsBelongToTheCaller(t *testing.T) {
	d := three()
	names := d.Names()
	text, _ := d.Read("a")
	more := d.Names()
	clear(more[:cap(more)])
	_ = append(more[:0], "z")
	lists(t, "after a change of what was answered", d, "a", "b", "c")
	d.Rename("a", "d")
	d.Crash(1, 1)
	d.Append("d", "9")
	d.Cut("d", 0)
	d.Append("d", "abcd")
	if !slices.Equal(names, []string{"a", "b", "c"}) || text != "123" {
		t.Errorf("what was answered is %q, %q now", names, text)
	}
}

// held is how many bytes of memory are in use.
func held() uint64 {
	var m runtime.MemStats
	runtime.GC()
	runtime.ReadMemStats(&m)
	return m.HeapAlloc
}

func TestMemoryIsLetGo(t *testing.T) {
	for what, empty := range map[string]func(d *Disk, name string){
		"Remove":      func(d *Disk, name string) { d.Remove(name) },
		"Rename":      func(d *Disk, name string) { d.Append("b", ""); d.Rename("b", name) },
		"Cut":         func(d *Disk, name string) { d.Cut(name, 9) },
		"short cuts":  func(d *Disk, name string) { shorten(d, name) },
		"Crash":       func(d *Disk, name string) { d.Crash() },
		"short names": func(d *Disk, name string) { d.Rename(name, strings.Repeat("m", 1<<22)[:1]); d.Cut("m", 0) },
	} {
		before := held()
		d := New(1 << 30)
		for i := range 32 {
			name := string([]byte{'n', byte(i)})
			d.Append(name, strings.Repeat("x", 1<<20))
			if held() < before+1<<19 {
				t.Fatal("too little is held for this test")
			}
			empty(d, name)
		}
		if after := held(); after > before+1<<20 {
			t.Errorf("%s: of what is gone, %d bytes are still held", what, after-before)
		}
		runtime.KeepAlive(d)
	}
}

// shorten cuts a file little by little.
func shorten(d *Disk, name string) {
	for n := 1 << 20; n > 1<<10; n -= 1 << 8 {
		d.Cut(name, n)
	}
}

func TestDisksAreApart(t *testing.T) {
	a, b := New(10), New(10)
	a.Append("a", "x")
	a.Arm(0)
	a.Sync("a")
	lists(t, "the other one", b)
	on(t, "the other one", b, true)
	counts(t, "Steps", b.Steps(), 0)
	b.Append("b", "1234567890")
	lists(t, "the first one", a, "a")
	counts(t, "Used", a.Used(), 1)
}

// machine is what a disk does, and what a model of one does.
type machine interface {
	Append(name, s string) api.Errno
	Read(name string) (string, api.Errno)
	Sync(name string) api.Errno
	Rename(old, name string) api.Errno
	Remove(name string) api.Errno
	Cut(name string, n int) api.Errno
	Names() []string
	Used() int
	Limit(room int)
	Steps() int
	Arm(steps int)
	On() bool
	Crash(picks ...int)
}

// call is one of a disk's functions, and what it is called with.
type call struct {
	what, n   int
	name, new string
	text      string
	picks     [6]int
	some      int
}

// answer is what a call answers, all put together.
type answer struct {
	text string
	err  api.Errno
}

// of makes a call.
func (c call) of(d machine) answer {
	var out answer
	switch c.what {
	case 0, 1, 2, 3, 4, 5:
		out.err = d.Append(c.name, c.text)
	case 6, 7:
		out.text, out.err = d.Read(c.name)
	case 8, 9:
		out.err = d.Sync(c.name)
	case 10, 11, 12:
		out.err = d.Rename(c.name, c.new)
	case 13:
		out.err = d.Remove(c.name)
	case 14, 15:
		out.err = d.Cut(c.name, c.n)
	case 16:
		d.Limit(c.n + 20)
	case 17:
		d.Arm(c.n)
	default:
		d.Crash(c.picks[:c.some]...)
	}
	return out
}

// anyCall is a call by chance; there are few names, so that files meet often.
func anyCall(r *rand.Rand) call {
	names := []string{"a", "b", "c", "d", "", strings.Repeat("n", 41), "a", "b", "c"}
	out := call{what: r.Intn(20), n: r.Intn(12) - 2, some: r.Intn(7)}
	out.name, out.new = names[r.Intn(len(names))], names[r.Intn(len(names))]
	out.text = "0123456789"[r.Intn(6):][:r.Intn(5)]
	for i := range out.picks {
		out.picks[i] = r.Intn(12) - 4
	}
	return out
}

// state is what can be seen of a disk without a change, put together.
func state(d machine) string {
	out := strings.Join(d.Names(), ",")
	for _, name := range append(d.Names(), "other") {
		s, err := d.Read(name)
		out += ";" + s + err.Error()
	}
	for _, n := range []int{d.Used(), d.Steps()} {
		out += ";" + api.Errno(n).Error()
	}
	if d.On() {
		out += ";on"
	}
	return out
}

// written is a file by the chapter's words: its durable bytes, and those behind them.
type written struct{ name, firm, loose string }

// model is a disk by the chapter's words alone. Its files stand in the order of their names; until is the step with which the power is lost, or 0.
type model struct {
	files              []written
	room, steps, until int
	dead               bool
}

func (m *model) find(name string) int {
	return slices.IndexFunc(m.files, func(f written) bool { return f.name == name })
}

func (m *model) forget(name string) {
	m.files = slices.DeleteFunc(m.files, func(f written) bool { return f.name == name })
}

func (m *model) keep(f written) {
	m.forget(f.name)
	m.files = append(m.files, f)
	slices.SortFunc(m.files, func(a, b written) int { return strings.Compare(a.name, b.name) })
}

// wrong is the first error of a call that is known ahead of what it is about.
func (m *model) wrong(create bool, name string, more ...string) api.Errno {
	if m.dead {
		return api.ErrPower
	}
	for _, s := range append([]string{name}, more...) {
		if s == "" || len(s) > 40 {
			return api.ErrArg
		}
	}
	if !create && m.find(name) < 0 {
		return api.ErrNone
	}
	return api.OK
}

// next makes a step, unless there is an error or the power is lost now.
func (m *model) next(err api.Errno, do func()) api.Errno {
	if err != api.OK {
		return err
	}
	if m.steps+1 == m.until {
		m.dead = true
		return api.ErrPower
	}
	m.steps++
	do()
	return api.OK
}

func (m *model) Append(name, s string) api.Errno {
	err := m.wrong(true, name)
	if err == api.OK && m.Used()+len(s) > m.room {
		err = api.ErrFull
	}
	return m.next(err, func() {
		f := written{name: name}
		if i := m.find(name); i >= 0 {
			f = m.files[i]
		}
		f.loose += s
		m.keep(f)
	})
}

func (m *model) Read(name string) (string, api.Errno) {
	err := m.wrong(false, name)
	if err != api.OK {
		return "", err
	}
	f := m.files[m.find(name)]
	return f.firm + f.loose, api.OK
}

func (m *model) Sync(name string) api.Errno {
	return m.next(m.wrong(false, name), func() {
		f := m.files[m.find(name)]
		m.keep(written{name, f.firm + f.loose, ""})
	})
}

func (m *model) Rename(old, name string) api.Errno {
	return m.next(m.wrong(false, old, name), func() {
		if f := m.files[m.find(old)]; old != name {
			m.forget(old)
			m.keep(written{name, f.firm, f.loose})
		}
	})
}

func (m *model) Remove(name string) api.Errno {
	return m.next(m.wrong(false, name), func() { m.forget(name) })
}

func (m *model) Cut(name string, n int) api.Errno {
	err, all := m.wrong(false, name), ""
	if err == api.OK {
		if all, _ = m.Read(name); n < 0 || n > len(all) {
			err = api.ErrArg
		}
	}
	return m.next(err, func() {
		f := m.files[m.find(name)]
		firm := min(n, len(f.firm))
		m.keep(written{name, all[:firm], all[firm:n]})
	})
}

func (m *model) Names() []string {
	var out []string
	for _, f := range m.files {
		out = append(out, f.name)
	}
	return out
}

func (m *model) Used() int {
	used := 0
	for _, f := range m.files {
		used += len(f.firm + f.loose)
	}
	return used
}

func (m *model) Limit(room int) { m.room = max(room, 0) }
func (m *model) Steps() int     { return m.steps }
func (m *model) Arm(steps int)  { m.until = m.steps + max(steps, 0) + 1 }
func (m *model) On() bool       { return !m.dead }

func (m *model) Crash(picks ...int) {
	picks = append(slices.Clone(picks), make([]int, 2*len(m.files))...)
	for i, f := range m.files {
		remain, odd := at(picks[2*i], len(f.loose)), picks[2*i+1]&1 == 1
		rest := f.loose[:remain]
		if remain > 0 && odd {
			rest = inverted(rest)
		}
		m.files[i] = written{f.name, f.firm + rest, ""}
	}
	m.dead, m.until = false, 0
}

func TestAnyCalls(t *testing.T) {
	for seed := range int64(1000) {
		r := rand.New(rand.NewSource(seed))
		d, m := New(20), &model{room: 20}
		for range 100 {
			c := anyCall(r)
			if got, want := c.of(d), c.of(m); got != want {
				t.Fatalf("%v is %v, want %v", c, got, want)
			}
			if got, want := state(d), state(m); got != want {
				t.Fatalf("after %v: %q, want %q", c, got, want)
			}
		}
	}
}

func TestSameCallsHaveSameResults(t *testing.T) {
	var calls []call
	r := rand.New(rand.NewSource(1))
	for range 500 {
		calls = append(calls, anyCall(r))
	}
	run := func() []answer {
		var out []answer
		d := New(30)
		for _, c := range calls {
			out = append(out, c.of(d), answer{text: state(d)})
		}
		return out
	}
	first := run()
	for range 10 {
		if !slices.Equal(run(), first) {
			t.Fatal("the same calls have other results")
		}
	}
}

// P9.4

// firm are the durable bytes of each file: what remains of it when no pick keeps more.
func firm(d *Disk) map[string]string {
	c, out := d.Copy(), map[string]string{}
	c.Crash()
	for _, name := range c.Names() {
		out[name], _ = c.Read(name)
	}
	return out
}

// whole are all bytes of each file, whether there is power or not.
func whole(d *Disk, texts map[string]string) map[string]string {
	if d.On() {
		clear(texts)
		for _, name := range d.Names() {
			texts[name], _ = d.Read(name)
		}
	}
	return texts
}

func TestWhatRemains(t *testing.T) {
	for seed := range int64(500) {
		r := rand.New(rand.NewSource(seed))
		d, texts := New(40), map[string]string{}
		for range 100 {
			c := anyCall(r)
			before := firm(d)
			if c.what < 18 {
				c.of(d)
				texts = whole(d, texts)
				continue
			}
			c.of(d)
			lists(t, "the same files are there", d, sortedKeys(texts)...)
			for name, all := range texts {
				got, err := d.Read(name)
				if err != api.OK || !strings.HasPrefix(got, before[name]) {
					t.Fatalf("%q has %q, %d, of which %q was durable", name, got, err, before[name])
				}
				last := max(len(got)-1, len(before[name]))
				if len(got) > len(all) || got[:last] != all[:last] {
					t.Fatalf("%q has %q, of %q", name, got, all)
				}
			}
			texts = whole(d, texts)
		}
	}
}

// sortedKeys are the names of texts, in order.
func sortedKeys(texts map[string]string) []string {
	var out []string
	for name := range texts {
		out = append(out, name)
	}
	slices.Sort(out)
	return out
}

func TestSyncedBytesSurviveLossOfPower(t *testing.T) {
	for steps := range 8 {
		for _, p := range picks() {
			d := New(100)
			d.Arm(steps)
			synced := ""
			for i := range 4 {
				d.Append("a", string(rune('a'+i)))
				if d.Sync("a") == api.OK {
					synced, _ = d.Read("a")
				}
			}
			d.Crash(p, 1)
			got, _ := d.Read("a")
			if !strings.HasPrefix(got, synced) || len(got) > len(synced)+1 {
				t.Errorf("after %d steps and Crash(%d, 1), %q remains, of which %q was synchronized", steps, p, got, synced)
			}
		}
	}
}

// The chapter's examples

func TestExamples(t *testing.T) {
	d := New(9)
	gives(t, "example's Append", d.Append("a", "xyz"), api.OK)
	gives(t, "example's Sync", d.Sync("a"), api.OK)
	gives(t, "example's Append", d.Append("a", "uvw"), api.OK)
	remains(t, "example", d, "xyzuv", 2)
	remains(t, "example", d, "xyzu\x89", 2, 1)
	gives(t, "example's Append of 7 further bytes", d.Append("a", "1234567"), api.ErrFull)
	d = New(9)
	d.Arm(1)
	gives(t, "example's Append", d.Append("a", "x"), api.OK)
	gives(t, "example's Append", d.Append("a", "x"), api.ErrPower)
	on(t, "example", d, false)
}
