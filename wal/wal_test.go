package wal

import (
	"encoding/binary"
	"hash/crc32"
	"math"
	"math/rand"
	"slices"
	"strings"
	"testing"
	"unsafe"

	"fingerpost/api"
	"fingerpost/disk"
)

// gives tells of a call that returned another error.
func gives(t *testing.T, what string, got, want api.Errno) {
	t.Helper()
	if got != want {
		t.Errorf("%s is %d, want %d", what, got, want)
	}
}

// counts tells of a call that returned another number.
func counts(t *testing.T, what string, got, want int) {
	t.Helper()
	if got != want {
		t.Errorf("%s is %d, want %d", what, got, want)
	}
}

// same tells of a list with other strings.
func same(t *testing.T, what string, got []string, want ...string) {
	t.Helper()
	if !slices.Equal(got, want) {
		t.Errorf("%s: %.200q, want %.200q", what, got, want)
	}
}

// numbered is a number in 4 bytes.
func numbered(n uint32) string {
	return string(binary.BigEndian.AppendUint32(nil, n))
}

// headed is a string behind a length, which may be wrong, and the checksum of both by the library.
func headed(length uint32, s string) string {
	sum := crc32.ChecksumIEEE([]byte(numbered(length) + s))
	return numbered(length) + numbered(sum) + s
}

// form is the Record of each string by the chapter's words, one behind the other.
func form(list ...string) string {
	var out strings.Builder
	for _, s := range list {
		out.WriteString(headed(uint32(len(s)), s))
	}
	return out.String()
}

// long is a string of more bytes than a record may have.
func long() string {
	return strings.Repeat("x", 60001)
}

// remains is what a disk has after a crash with these picks. The disk itself stays.
func remains(d *disk.Disk, picks ...int) string {
	c, out := d.Copy(), ""
	c.Crash(picks...)
	for _, name := range c.Names() {
		s, _ := c.Read(name)
		out += name + "=" + s + ";"
	}
	return out
}

// alike tells of a disk that does not stand as another one does: in what it has, and in what of this is durable.
func alike(t *testing.T, what string, d, want *disk.Disk) {
	t.Helper()
	counts(t, what+": Steps", d.Steps(), want.Steps())
	if d.On() != want.On() {
		t.Errorf("%s: On is %v", what, d.On())
	}
	for p := range 25 {
		picks := []int{p, 0, p, 0, p, 0}
		if got, other := remains(d, picks...), remains(want, picks...); got != other {
			t.Fatalf("%s: Crash(%d) leaves %.200q, want %.200q", what, p, got, other)
		}
	}
}

// stands tells of a log with other counts, or of one that is broken.
func stands(t *testing.T, what string, w *Wal, firm int, records ...string) {
	t.Helper()
	counts(t, what+": Len", w.Len(), len(records))
	counts(t, what+": Firm", w.Firm(), firm)
	counts(t, what+": Size", w.Size(), len(form(records...)))
	if w.Broken() {
		t.Errorf("%s: the log is broken", what)
	}
}

// breaks tells of a log that is not broken, or whose counts have changed, or which does not refuse what it is asked for, or touches the disk for it.
func breaks(t *testing.T, what string, w *Wal, d *disk.Disk, firm int, records ...string) {
	t.Helper()
	d = d.Copy()
	if !w.Broken() {
		t.Errorf("%s: the log is not broken", what)
	}
	had := d.Copy()
	gives(t, what+": Append", w.Append("a"), api.ErrState)
	gives(t, what+": Append of nothing", w.Append(), api.ErrState)
	gives(t, what+": Append of what is too long", w.Append(long()), api.ErrState)
	gives(t, what+": Sync", w.Sync(), api.ErrState)
	gives(t, what+": Rewrite", w.Rewrite("a"), api.ErrState)
	gives(t, what+": Rewrite to nothing", w.Rewrite(), api.ErrState)
	gives(t, what+": Rewrite to what is too long", w.Rewrite(long()), api.ErrState)
	alike(t, what+": a broken log", d, had)
	counts(t, what+": Len", w.Len(), len(records))
	counts(t, what+": Firm", w.Firm(), firm)
	counts(t, what+": Size", w.Size(), len(form(records...)))
	if !w.Broken() {
		t.Errorf("%s: the log is broken no more", what)
	}
}

// opened is the log of a disk, which is to have these records, all of them durable.
func opened(t *testing.T, what string, d *disk.Disk, want ...string) *Wal {
	t.Helper()
	w, records, err := Open(d)
	gives(t, what+": Open", err, api.OK)
	if w == nil {
		t.Fatalf("%s: Open is nil", what)
	}
	same(t, what+": Open", records, want...)
	stands(t, what, w, len(want), want...)
	return w
}

// holding is a disk with much room whose file of this name has durable bytes and others behind them.
func holding(name, firm, loose string) *disk.Disk {
	d := disk.New(1 << 20)
	d.Append(name, firm)
	d.Sync(name)
	d.Append(name, loose)
	return d
}

// P10.1: Record

func TestRecord(t *testing.T) {
	for _, size := range []int{0, 1, 2, 3, 4, 8, 255, 256, 257, 59999, 60000} {
		s := strings.Repeat("\xfe\x00z", size)[:size]
		got, err := Record(s)
		if got != form(s) || err != api.OK {
			t.Errorf("Record of %d bytes is %.40q, %d, want %.40q", size, got, err, form(s))
		}
		counts(t, "a Record's bytes", len(got), 8+size)
	}
	if got, _ := Record("\x01\x80"); got[:4] != "\x00\x00\x00\x02" || got[8:] != "\x01\x80" {
		t.Errorf("Record is %q", got)
	}
}

func TestRecordOfWhatIsTooLong(t *testing.T) {
	for _, size := range []int{60001, 60002, 65535, 65536, 65537, 1<<24 + 1} {
		got, err := Record(strings.Repeat("x", size))
		if got != "" || err != api.ErrSize {
			t.Errorf("Record of %d bytes has %d bytes, %d", size, len(got), err)
		}
	}
}

// P10.1: Records

// reads tells of bytes that have other Records.
func reads(t *testing.T, what, b string, want ...string) {
	t.Helper()
	got, size := Records(b)
	same(t, what, got, want...)
	counts(t, what+": the bytes", size, len(form(want...)))
}

// some are strings of many kinds.
func some() []string {
	return []string{"", "a", "", "\x00", "\x00\x00\x00\x00", "bcd\xff", form("x"), "0123456789", ""}
}

func TestRecords(t *testing.T) {
	reads(t, "Records of nothing", "")
	reads(t, "Records", form("a"), "a")
	reads(t, "Records", form("", "", ""), "", "", "")
	list := some()
	for n := range len(list) + 1 {
		reads(t, "Records", form(list[:n]...), list[:n]...)
	}
	great := []string{strings.Repeat("x", 60000), "", strings.Repeat("\x00", 59999), "y"}
	reads(t, "Records of great ones", form(great...), great...)
	many := slices.Repeat([]string{"q", ""}, 5000)
	reads(t, "Records of many", form(many...), many...)
}

func TestRecordsOfCutBytes(t *testing.T) {
	list := some()
	for n := range len(list) {
		start, end := len(form(list[:n]...)), len(form(list[:n+1]...))
		for cut := start; cut < end; cut++ {
			reads(t, "Records of bytes that are cut", form(list...)[:cut], list[:n]...)
		}
	}
}

func TestRecordsOfChangedBytes(t *testing.T) {
	list := some()
	all := form(list...)
	for n := range len(list) {
		start, end := len(form(list[:n]...)), len(form(list[:n+1]...))
		for at := start; at < end; at++ {
			for other := 1; other < 256; other++ {
				b := []byte(all)
				b[at] ^= byte(other)
				reads(t, "Records of bytes of which one is changed", string(b), list[:n]...)
			}
		}
	}
}

func TestRecordsStopAtTheFirstOtherBytes(t *testing.T) {
	for _, other := range []string{"\x00", "\xff", "abcdefgh", strings.Repeat("\x00", 8), strings.Repeat("\x00", 100), strings.Repeat("\xff", 100), form("b")[1:]} {
		reads(t, "Records behind other bytes", other+form("c"))
		reads(t, "Records on both sides of other bytes", form("a", "b")+other+form("c"), "a", "b")
	}
}

func TestRecordsOfWrongLengths(t *testing.T) {
	s := strings.Repeat("y", 60001)
	for _, size := range []int{60001, 60000, 59999} {
		want := []string{"a"}
		if size <= 60000 {
			want = []string{"a", s[:size], "b"}
		}
		reads(t, "Records about the greatest length", form("a")+headed(uint32(size), s[:size])+form("b"), want...)
	}
	for _, length := range []uint32{0, 2, 4, 60000, 60001, 1 << 16, 1 << 24, 3 << 24, math.MaxInt32, 1 << 31, math.MaxUint32 - 8, math.MaxUint32 - 7, math.MaxUint32} {
		reads(t, "Records with another length, of which the checksum is", form("a")+headed(length, "123")+form("b"), "a")
		reads(t, "Records with another length at the end", form("a")+headed(length, "123"), "a")
	}
}

func TestChecksumIsOfLengthAndString(t *testing.T) {
	for _, sum := range []uint32{0, crc32.ChecksumIEEE([]byte("ab")), crc32.ChecksumIEEE([]byte("ab\x00\x00\x00\x02")), ^crc32.ChecksumIEEE([]byte("\x00\x00\x00\x02ab"))} {
		reads(t, "Records with another checksum", numbered(2)+numbered(sum)+"ab")
	}
}

// second is a second reading of Records: it tries each string.
func second(b string) []string {
	var out []string
	for at := 0; ; {
		found := false
		for end := at + 8; end <= len(b) && !found; end++ {
			if s := b[at+8 : end]; b[at:end] == form(s) {
				out, at, found = append(out, s), end, true
			}
		}
		if !found {
			return out
		}
	}
}

// anyBytes are Records, pieces of some, and others.
func anyBytes(r *rand.Rand) string {
	out := ""
	for range r.Intn(5) {
		one := form(string([]byte("abc\x00\x00\x00\x01\xff"))[:r.Intn(9)])
		switch r.Intn(8) {
		case 0:
			one = one[r.Intn(len(one)):]
		case 1:
			one = one[:r.Intn(len(one))]
		case 2:
			b := []byte(one)
			b[r.Intn(len(b))] ^= 1 << r.Intn(8)
			one = string(b)
		case 3:
			one = numbered(uint32(r.Intn(4))) + numbered(r.Uint32()) + one
		}
		out += one
	}
	return out
}

func TestRecordsOfAnyBytes(t *testing.T) {
	r := rand.New(rand.NewSource(1))
	for range 20000 {
		b := anyBytes(r)
		reads(t, "Records", b, second(b)...)
	}
}

func TestRecordsAreNewMemory(t *testing.T) {
	b := form("abc", strings.Repeat("x", 5000))
	from := uintptr(unsafe.Pointer(unsafe.StringData(b)))
	list, _ := Records(b)
	for _, s := range list {
		if at := uintptr(unsafe.Pointer(unsafe.StringData(s))); at >= from && at < from+uintptr(len(b)) {
			t.Errorf("a record of %d bytes holds all of the %d bytes that it was read of", len(s), len(b))
		}
	}
	list[0] = "changed"
	reads(t, "Records once more", b, "abc", strings.Repeat("x", 5000))
}

// P10.2

func TestOpenOfNoDisk(t *testing.T) {
	w, records, err := Open(nil)
	if w != nil || records != nil || err != api.ErrArg {
		t.Errorf("Open of no disk is %v, %q, %d", w, records, err)
	}
}

// refuses tells of a disk of which Open does not return this error alone, or which does not stand as another one does then.
func refuses(t *testing.T, what string, d *disk.Disk, want api.Errno, then *disk.Disk) {
	t.Helper()
	w, records, err := Open(d)
	if w != nil || records != nil || err != want {
		t.Errorf("%s: Open is %v, %q, %d, want %d", what, w, records, err, want)
	}
	alike(t, what, d, then)
}

func TestOpenWithoutPower(t *testing.T) {
	for _, name := range []string{"other", "wal", "wal.new"} {
		d := holding(name, form("a"), "rest")
		d.Arm(0)
		d.Append("b", "x")
		refuses(t, "no power", d, api.ErrPower, d.Copy())
		d = disk.New(9)
		d.Arm(0)
		d.Append("b", "x")
		refuses(t, "no power and no files", d, api.ErrPower, d.Copy())
	}
}

func TestOpenOfAnEmptyDisk(t *testing.T) {
	for _, d := range []*disk.Disk{disk.New(100), disk.New(0), new(disk.Disk)} {
		had := d.Copy()
		opened(t, "an empty disk", d)
		alike(t, "Open of an empty disk", d, had)
	}
	d := disk.New(100)
	d.Arm(0)
	opened(t, "an empty disk that is about to lose its power", d)
	counts(t, "Steps", d.Steps(), 0)
}

func TestOpenReadsTheLog(t *testing.T) {
	for _, list := range [][]string{{}, {""}, {"a"}, some(), {strings.Repeat("z", 60000), "y"}} {
		for _, loose := range []int{0, len(list)} {
			d := holding("wal", form(list[:loose]...), form(list[loose:]...))
			want := d.Copy()
			want.Sync("wal")
			opened(t, "a log", d, list...)
			alike(t, "Open makes all durable", d, want)
		}
	}
}

func TestOpenCutsTheLog(t *testing.T) {
	for _, rest := range []string{"x", "\x00", form("c")[:8], form("c")[1:], strings.Repeat("\x00", 30), "x" + form("c"), form(long())} {
		for _, firm := range []bool{true, false} {
			d := holding("wal", form("a", "")+rest, "")
			if !firm {
				d = holding("wal", form("a"), form("")+rest)
			}
			want := d.Copy()
			want.Cut("wal", len(form("a", "")))
			want.Sync("wal")
			w := opened(t, "a log with other bytes behind it", d, "a", "")
			alike(t, "Open cuts the log", d, want)
			gives(t, "Append", w.Append("d"), api.OK)
			opened(t, "what comes behind", d, "a", "", "d")
		}
	}
	d := holding("wal", "rest", "")
	opened(t, "a log of other bytes alone", d)
	if s, err := d.Read("wal"); s != "" || err != api.OK {
		t.Errorf("the log is %q, %d", s, err)
	}
}

func TestOpenRemovesTheNewFile(t *testing.T) {
	for _, text := range []string{"", "x", form("n", "m")} {
		d := holding("wal.new", text, "more")
		want := d.Copy()
		want.Remove("wal.new")
		opened(t, "wal.new alone", d)
		alike(t, "Open removes wal.new", d, want)

		d = holding("wal.new", text, "")
		d.Append("wal", form("a"))
		want = d.Copy()
		want.Remove("wal.new")
		want.Sync("wal")
		opened(t, "both files", d, "a")
		alike(t, "Open removes wal.new", d, want)
	}
}

func TestOpenLeavesOtherFiles(t *testing.T) {
	d := disk.New(1000)
	for _, name := range []string{"WAL", "wa", "wal ", "wal.", "wal.ne", "wal.new2", "wal.old", "x"} {
		d.Append(name, form("other")+"rest")
	}
	had := d.Copy()
	w := opened(t, "other files", d)
	alike(t, "other files", d, had)
	had.Append("wal", form("a"))
	had.Sync("wal")
	w.Append("a")
	w.Sync()
	alike(t, "other files of a log", d, had)
	had.Append("wal.new", form("b"))
	had.Sync("wal.new")
	had.Rename("wal.new", "wal")
	w.Rewrite("b")
	alike(t, "other files of another log", d, had)
}

// torn is a disk with all that Open has to do.
func torn() *disk.Disk {
	d := holding("wal", form("a"), form("b")+"rest")
	d.Append("wal.new", form("n"))
	return d
}

func TestOpenWhenThePowerFails(t *testing.T) {
	steps := []func(d *disk.Disk){
		func(d *disk.Disk) { d.Remove("wal.new") },
		func(d *disk.Disk) { d.Cut("wal", len(form("a", "b"))) },
		func(d *disk.Disk) { d.Sync("wal") },
	}
	for n := range steps {
		d, want := torn(), torn()
		d.Arm(n)
		want.Arm(n)
		for _, step := range steps[:n+1] {
			step(want)
		}
		refuses(t, "the power fails", d, api.ErrPower, want)
		d.Crash(len(form("b")))
		opened(t, "after the power failed", d, "a", "b")
	}
	d := torn()
	d.Arm(len(steps))
	opened(t, "the power fails behind it", d, "a", "b")
}

func TestOpenOfTheSameDiskAgain(t *testing.T) {
	d := disk.New(1000)
	w := opened(t, "an empty disk", d)
	w.Append("a", "b")
	opened(t, "a log that was not synchronized", d, "a", "b")
	d.Crash()
	opened(t, "Open synchronized it", d, "a", "b")
}

// P10.3: Append

func TestAppend(t *testing.T) {
	d := disk.New(1 << 20)
	w, want := opened(t, "an empty disk", d), d.Copy()
	gives(t, "Append", w.Append("a"), api.OK)
	want.Append("wal", form("a"))
	alike(t, "Append", d, want)
	stands(t, "Append", w, 0, "a")
	gives(t, "Append of some", w.Append("", "bc", ""), api.OK)
	want.Append("wal", form("", "bc", ""))
	alike(t, "Append of some by one Append of the disk", d, want)
	stands(t, "Append of some", w, 0, "a", "", "bc", "")
	opened(t, "Append", d, "a", "", "bc", "")
	great := strings.Repeat("z", 60000)
	gives(t, "Append of the greatest record", w.Append(great, "x"), api.OK)
	stands(t, "Append of the greatest record", w, 0, "a", "", "bc", "", great, "x")
	opened(t, "Append of the greatest record", d, "a", "", "bc", "", great, "x")
}

func TestAppendOfNothing(t *testing.T) {
	d := disk.New(0)
	w := opened(t, "an empty disk", d)
	had := d.Copy()
	gives(t, "Append of nothing", w.Append(), api.OK)
	gives(t, "Append of an empty list", w.Append([]string{}...), api.OK)
	alike(t, "Append of nothing", d, had)
	stands(t, "Append of nothing", w, 0)
	d.Arm(0)
	gives(t, "Append of nothing, and the power is about to fail", w.Append(), api.OK)
	d.Append("x", "")
	gives(t, "Append of nothing without power", w.Append(), api.OK)
	stands(t, "Append of nothing", w, 0)
}

func TestAppendOfWhatIsTooLong(t *testing.T) {
	d := disk.New(1 << 20)
	w := opened(t, "an empty disk", d)
	w.Append("a")
	w.Sync()
	had := d.Copy()
	for _, list := range [][]string{{long()}, {long(), "b"}, {"b", long()}, {"b", long(), "c"}, {strings.Repeat("y", 1<<17)}} {
		gives(t, "Append of what is too long", w.Append(list...), api.ErrSize)
		stands(t, "Append of what is too long", w, 1, "a")
	}
	alike(t, "Append of what is too long", d, had)
	d.Limit(0)
	gives(t, "Append of what is too long to a full disk", w.Append("b", long()), api.ErrSize)
	d.Limit(100)
	d.Arm(0)
	d.Append("x", "")
	gives(t, "Append of what is too long without power", w.Append("b", long()), api.ErrSize)
	stands(t, "Append of what is too long", w, 1, "a")
	d.Crash()
	gives(t, "Append", w.Append("b"), api.OK)
	opened(t, "Append", d, "a", "b")
}

func TestAppendToAFullDisk(t *testing.T) {
	d := disk.New(len(form("a", "b")))
	w := opened(t, "an empty disk", d)
	had := d.Copy()
	gives(t, "Append of too much", w.Append("a", "b", ""), api.ErrFull)
	alike(t, "Append of too much", d, had)
	stands(t, "Append of too much", w, 0)
	gives(t, "Append", w.Append("a"), api.OK)
	had = d.Copy()
	gives(t, "Append of a byte too much", w.Append("bc"), api.ErrFull)
	gives(t, "Append of a record too much", w.Append("b", ""), api.ErrFull)
	alike(t, "Append of too much", d, had)
	stands(t, "Append of too much", w, 0, "a")
	gives(t, "Append of what fits", w.Append("b"), api.OK)
	gives(t, "Append to a full disk", w.Append(""), api.ErrFull)
	gives(t, "Sync of a full disk", w.Sync(), api.OK)
	gives(t, "Append of nothing to a full disk", w.Append(), api.OK)
	stands(t, "a full disk", w, 2, "a", "b")
	d.Limit(1000)
	gives(t, "Append when there is room again", w.Append("c"), api.OK)
	stands(t, "room again", w, 2, "a", "b", "c")
	opened(t, "room again", d, "a", "b", "c")
}

func TestAppendWhenThePowerFails(t *testing.T) {
	d := disk.New(1000)
	w := opened(t, "an empty disk", d)
	w.Append("a")
	w.Sync()
	w.Append("b")
	d.Arm(0)
	want := d.Copy()
	want.Append("wal", "x")
	gives(t, "Append when the power fails", w.Append("c"), api.ErrPower)
	alike(t, "Append when the power fails", d, want)
	breaks(t, "Append when the power fails", w, d, 1, "a", "b")
	d.Crash()
	breaks(t, "Append, and the power is back", w, d, 1, "a", "b")
	opened(t, "another log", d, "a")
	breaks(t, "the first log", w, d, 1, "a", "b")
}

// P10.3: Sync

func TestSync(t *testing.T) {
	d := disk.New(1000)
	w, want := opened(t, "an empty disk", d), d.Copy()
	gives(t, "Sync of no log", w.Sync(), api.OK)
	alike(t, "Sync of no log", d, want)
	for i, list := range [][]string{{"a"}, {"b", "c"}, {""}} {
		all := []string{"a", "b", "c", ""}[:[]int{1, 3, 4}[i]]
		w.Append(list...)
		want.Append("wal", form(list...))
		stands(t, "ahead of Sync", w, len(all)-len(list), all...)
		gives(t, "Sync", w.Sync(), api.OK)
		want.Sync("wal")
		alike(t, "Sync", d, want)
		stands(t, "Sync", w, len(all), all...)
		gives(t, "Sync again", w.Sync(), api.OK)
		alike(t, "Sync again does nothing", d, want)
		stands(t, "Sync again", w, len(all), all...)
	}
	d.Crash()
	opened(t, "Sync", d, "a", "b", "c", "")
}

func TestSyncOfWhatIsDurable(t *testing.T) {
	d := holding("wal", "", form("a"))
	w := opened(t, "a log", d, "a")
	d.Arm(0)
	gives(t, "Sync behind Open", w.Sync(), api.OK)
	d.Arm(3)
	gives(t, "Rewrite", w.Rewrite("b"), api.OK)
	gives(t, "Sync behind Rewrite", w.Sync(), api.OK)
	stands(t, "Sync", w, 1, "b")
	d.Append("x", "")
	gives(t, "Sync without power", w.Sync(), api.OK)
	stands(t, "Sync without power", w, 1, "b")
}

func TestSyncWhenThePowerFails(t *testing.T) {
	d := disk.New(1000)
	w := opened(t, "an empty disk", d)
	w.Append("a")
	w.Sync()
	w.Append("b")
	d.Arm(0)
	gives(t, "Sync when the power fails", w.Sync(), api.ErrPower)
	breaks(t, "Sync when the power fails", w, d, 1, "a", "b")
	d.Crash()
	breaks(t, "Sync, and the power is back", w, d, 1, "a", "b")
	opened(t, "what was not synchronized is lost", d, "a")
}

func TestSyncOfAFileThatIsGone(t *testing.T) {
	d := disk.New(1000)
	w := opened(t, "an empty disk", d)
	w.Append("a")
	d.Remove("wal")
	gives(t, "Sync of a file that is gone", w.Sync(), api.ErrNone)
	breaks(t, "Sync of a file that is gone", w, d, 0, "a")
}

// P10.3: Rewrite

func TestRewrite(t *testing.T) {
	d := disk.New(1 << 20)
	w, want := opened(t, "an empty disk", d), d.Copy()
	for _, list := range [][]string{{"a"}, {}, {"b", "", "c"}, {"d"}, {strings.Repeat("z", 60000), "e"}, {}} {
		gives(t, "Append", w.Append("more"), api.OK)
		gives(t, "Rewrite", w.Rewrite(list...), api.OK)
		want.Append("wal", form("more"))
		want.Append("wal.new", form(list...))
		want.Sync("wal.new")
		want.Rename("wal.new", "wal")
		alike(t, "Rewrite", d, want)
		stands(t, "Rewrite", w, len(list), list...)
		c := d.Copy()
		c.Crash()
		opened(t, "Rewrite", c, list...)
	}
}

func TestRewriteOfNoLog(t *testing.T) {
	d := disk.New(0)
	w, want := opened(t, "an empty disk", d), d.Copy()
	gives(t, "Rewrite to nothing", w.Rewrite(), api.OK)
	want.Append("wal.new", "")
	want.Sync("wal.new")
	want.Rename("wal.new", "wal")
	alike(t, "Rewrite to nothing makes the file", d, want)
	same(t, "the files", d.Names(), "wal")
	stands(t, "Rewrite to nothing", w, 0)
}

func TestRewriteRemovesTheNewFile(t *testing.T) {
	d := holding("wal", form("a"), "")
	w := opened(t, "a log", d, "a")
	d.Append("wal.new", "rest")
	want := d.Copy()
	gives(t, "Rewrite", w.Rewrite("b"), api.OK)
	want.Remove("wal.new")
	want.Append("wal.new", form("b"))
	want.Sync("wal.new")
	want.Rename("wal.new", "wal")
	alike(t, "Rewrite removes wal.new", d, want)
	opened(t, "Rewrite", d, "b")
}

func TestRewriteGoesOn(t *testing.T) {
	d := disk.New(1000)
	w := opened(t, "an empty disk", d)
	w.Append("a", "b")
	w.Rewrite("c")
	gives(t, "Append behind Rewrite", w.Append("d"), api.OK)
	stands(t, "Append behind Rewrite", w, 1, "c", "d")
	c := d.Copy()
	c.Crash()
	opened(t, "not synchronized", c, "c")
	gives(t, "Sync", w.Sync(), api.OK)
	d.Crash()
	opened(t, "synchronized", d, "c", "d")
}

func TestRewriteToWhatIsTooLong(t *testing.T) {
	d := disk.New(1 << 20)
	w := opened(t, "an empty disk", d)
	w.Append("a")
	d.Append("wal.new", "rest")
	had := d.Copy()
	for _, list := range [][]string{{long()}, {long(), "b"}, {"b", long()}, {"b", long(), "c"}} {
		gives(t, "Rewrite to what is too long", w.Rewrite(list...), api.ErrSize)
		stands(t, "Rewrite to what is too long", w, 0, "a")
	}
	alike(t, "Rewrite to what is too long", d, had)
	d.Limit(0)
	gives(t, "Rewrite to what is too long on a full disk", w.Rewrite(long()), api.ErrSize)
	d.Arm(0)
	gives(t, "Rewrite to what is too long, and the power is about to fail", w.Rewrite(long()), api.ErrSize)
	stands(t, "Rewrite to what is too long", w, 0, "a")
}

func TestRewriteOnAFullDisk(t *testing.T) {
	d := disk.New(len(form("a", "b", "c")))
	w := opened(t, "an empty disk", d)
	w.Append("a")
	w.Sync()
	w.Append("b")
	had := d.Copy()
	gives(t, "Rewrite to too much", w.Rewrite("cd"), api.ErrFull)
	gives(t, "Rewrite to too many", w.Rewrite("c", ""), api.ErrFull)
	alike(t, "Rewrite to too much", d, had)
	stands(t, "Rewrite to too much", w, 1, "a", "b")
	d.Append("wal.new", "123456789")
	had = d.Copy()
	gives(t, "Rewrite to too much again", w.Rewrite("cd"), api.ErrFull)
	had.Remove("wal.new")
	alike(t, "Rewrite to too much again", d, had)
	stands(t, "Rewrite to too much again", w, 1, "a", "b")
	gives(t, "Rewrite to what fits", w.Rewrite("c"), api.OK)
	stands(t, "Rewrite to what fits", w, 1, "c")
	d.Limit(1)
	gives(t, "Rewrite to nothing when there is more than the disk may have", w.Rewrite(), api.ErrFull)
	stands(t, "Rewrite to nothing", w, 1, "c")
	d.Limit(9)
	gives(t, "Rewrite to nothing on a full disk", w.Rewrite(), api.OK)
	stands(t, "Rewrite to nothing", w, 0)
	gives(t, "Append where there is room now", w.Append("d"), api.OK)
	opened(t, "Rewrite", d, "d")
}

func TestRewriteWhenThePowerFails(t *testing.T) {
	steps := []func(d *disk.Disk){
		func(d *disk.Disk) { d.Remove("wal.new") },
		func(d *disk.Disk) { d.Append("wal.new", form("c", "d")) },
		func(d *disk.Disk) { d.Sync("wal.new") },
		func(d *disk.Disk) { d.Rename("wal.new", "wal") },
	}
	for n := range steps {
		d := disk.New(1000)
		w := opened(t, "an empty disk", d)
		w.Append("a")
		w.Sync()
		w.Append("b")
		d.Append("wal.new", "rest")
		d.Arm(n)
		want := d.Copy()
		for _, step := range steps[:n+1] {
			step(want)
		}
		gives(t, "Rewrite when the power fails", w.Rewrite("c", "d"), api.ErrPower)
		alike(t, "Rewrite when the power fails", d, want)
		breaks(t, "Rewrite when the power fails", w, d, 1, "a", "b")
		d.Crash()
		breaks(t, "Rewrite, and the power is back", w, d, 1, "a", "b")
		opened(t, "the log is as it was", d, "a")
	}
}

// P10.4

func TestNil(t *testing.T) {
	var w *Wal
	gives(t, "Append of none", w.Append("a"), api.ErrArg)
	gives(t, "Append of nothing", w.Append(), api.ErrArg)
	gives(t, "Append of what is too long", w.Append(long()), api.ErrArg)
	gives(t, "Sync", w.Sync(), api.ErrArg)
	gives(t, "Rewrite", w.Rewrite("a"), api.ErrArg)
	gives(t, "Rewrite to nothing", w.Rewrite(), api.ErrArg)
	gives(t, "Rewrite to what is too long", w.Rewrite(long()), api.ErrArg)
	counts(t, "Len", w.Len(), 0)
	counts(t, "Firm", w.Firm(), 0)
	counts(t, "Size", w.Size(), 0)
	if !w.Broken() {
		t.Error("a nil Wal is not broken")
	}
}

func TestZeroIsBroken(t *testing.T) {
	breaks(t, "a zero Wal", new(Wal), disk.New(100), 0)
}

func TestLogsAreApart(t *testing.T) {
	a, b := disk.New(1000), disk.New(1000)
	v, w := opened(t, "a disk", a), opened(t, "another disk", b)
	v.Append("x", "y")
	v.Sync()
	stands(t, "the other log", w, 0)
	same(t, "the other disk", b.Names())
	b.Arm(0)
	gives(t, "Append when the power fails", w.Append("z"), api.ErrPower)
	stands(t, "the first log", v, 2, "x", "y")
	opened(t, "the first disk", a, "x", "y")
}

func TestListsAreNotShared(t *testing.T) {
	d := disk.New(1000)
	w := opened(t, "an empty disk", d)
	list := []string{"a", "b"}
	w.Append(list...)
	same(t, "the list of Append", list, "a", "b")
	list[0] = "changed"
	w, got, _ := Open(d)
	got[1] = "changed too"
	stands(t, "Open", w, 2, "a", "b")
	list = []string{"c", "d"}
	w.Rewrite(list...)
	same(t, "the list of Rewrite", list, "c", "d")
	list[1] = "changed"
	opened(t, "Rewrite", d, "c", "d")
}

// machine is what a log does, and what a model of one does.
type machine interface {
	Append(records ...string) api.Errno
	Sync() api.Errno
	Rewrite(records ...string) api.Errno
	Len() int
	Firm() int
	Size() int
	Broken() bool
}

// model is a log by the chapter's words alone, on a disk of its own.
type model struct {
	d       *disk.Disk
	records []string
	firm    int
	bad     bool
}

// did is the error of a call of the disk.
func (m *model) did(err api.Errno) api.Errno {
	m.bad = m.bad || err != api.OK && err != api.ErrFull
	return err
}

// wrong is the error of a call that is known ahead of what is done.
func (m *model) wrong(records []string) api.Errno {
	if m.bad {
		return api.ErrState
	}
	for _, s := range records {
		if len(s) > 60000 {
			return api.ErrSize
		}
	}
	return api.OK
}

func (m *model) Append(records ...string) api.Errno {
	err := m.wrong(records)
	if err != api.OK || len(records) == 0 {
		return err
	}
	if err = m.did(m.d.Append("wal", form(records...))); err == api.OK {
		m.records = append(m.records, records...)
	}
	return err
}

func (m *model) Sync() api.Errno {
	err := m.wrong(nil)
	if err != api.OK || m.firm == len(m.records) {
		return err
	}
	if err = m.did(m.d.Sync("wal")); err == api.OK {
		m.firm = len(m.records)
	}
	return err
}

func (m *model) Rewrite(records ...string) api.Errno {
	err := m.wrong(records)
	if err != api.OK {
		return err
	}
	if slices.Contains(m.d.Names(), "wal.new") {
		err = m.did(m.d.Remove("wal.new"))
	}
	if err == api.OK {
		err = m.did(m.d.Append("wal.new", form(records...)))
	}
	if err == api.OK {
		err = m.did(m.d.Sync("wal.new"))
	}
	if err == api.OK {
		err = m.did(m.d.Rename("wal.new", "wal"))
	}
	if err == api.OK {
		m.records, m.firm = slices.Clone(records), len(records)
	}
	return err
}

func (m *model) Len() int     { return len(m.records) }
func (m *model) Firm() int    { return m.firm }
func (m *model) Size() int    { return len(form(m.records...)) }
func (m *model) Broken() bool { return m.bad }

// reopen is Open by the chapter's words.
func (m *model) reopen() ([]string, api.Errno) {
	*m = model{d: m.d}
	if !m.d.On() {
		return nil, api.ErrPower
	}
	if slices.Contains(m.d.Names(), "wal.new") {
		if err := m.d.Remove("wal.new"); err != api.OK {
			return nil, err
		}
	}
	if !slices.Contains(m.d.Names(), "wal") {
		return nil, api.OK
	}
	s, err := m.d.Read("wal")
	list := second(s)
	if size := len(form(list...)); size < len(s) && err == api.OK {
		err = m.d.Cut("wal", size)
	}
	if err == api.OK {
		err = m.d.Sync("wal")
	}
	if err != api.OK {
		return nil, err
	}
	m.records, m.firm = slices.Clone(list), len(list)
	return list, api.OK
}

// call is something that is done to a log and its disk.
type call struct {
	what, n int
	list    []string
	picks   []int
}

// anyCall is a call by chance.
func anyCall(r *rand.Rand) call {
	out := call{what: r.Intn(12), n: r.Intn(6)}
	for range r.Intn(4) {
		out.list = append(out.list, "abcdef\x00\x01"[r.Intn(4):][:r.Intn(4)])
	}
	if r.Intn(40) == 0 {
		out.list = append(out.list, long())
	}
	for range 4 {
		out.picks = append(out.picks, r.Intn(40))
	}
	return out
}

// of makes a call that changes a log, or one of its disk.
func (c call) of(w machine, d *disk.Disk) api.Errno {
	switch c.what {
	case 0, 1, 2, 3:
		return w.Append(c.list...)
	case 4, 5, 6:
		return w.Sync()
	case 7:
		return w.Rewrite(c.list...)
	case 8:
		d.Limit(40 + 20*c.n)
	case 9:
		d.Arm(c.n)
	case 10:
		d.Append("wal.new", "rest")
	}
	return api.OK
}

// agree tells if two logs answer alike when they are asked how they stand.
func agree(a, b machine) bool {
	return a.Len() == b.Len() && a.Firm() == b.Firm() && a.Size() == b.Size() && a.Broken() == b.Broken()
}

func TestAnyCalls(t *testing.T) {
	for seed := range int64(300) {
		r := rand.New(rand.NewSource(seed))
		d, m := disk.New(100), &model{d: disk.New(100)}
		w := opened(t, "an empty disk", d)
		for range 60 {
			c := anyCall(r)
			if c.what == 11 {
				if c.n > 0 {
					d.Crash(c.picks...)
					m.d.Crash(c.picks...)
				}
				want, mustBe := m.reopen()
				got, list, err := Open(d)
				gives(t, "Open", err, mustBe)
				same(t, "Open", list, want...)
				if w = got; w == nil {
					w, m.bad = new(Wal), true
				}
			} else {
				gives(t, "a call", c.of(w, d), c.of(m, m.d))
			}
			if !agree(w, m) {
				t.Fatalf("after %v: %d of %d are firm, %v, want %d of %d, %v", c, w.Firm(), w.Len(), w.Broken(), m.Firm(), m.Len(), m.Broken())
			}
			alike(t, "any call", d, m.d)
			if t.Failed() {
				t.FailNow()
			}
		}
	}
}

// P10.5

// held is what a log has, and how many of these records are durable.
type held struct {
	records []string
	firm    int
}

// leaves tells if a log of which these records are left has kept its promise: all that were durable, and the first ones of the others.
func (h held) leaves(got []string) bool {
	return len(got) >= h.firm && len(got) <= len(h.records) && slices.Equal(got, h.records[:len(got)])
}

// scene is a log, a call that is about to be made, and what the log has behind it.
type scene struct {
	before held
	call   func(w *Wal) api.Errno
	after  held
}

// scenes are those of all kinds of calls.
func scenes() []scene {
	add := func(w *Wal) api.Errno { return w.Append("e", "") }
	sync := (*Wal).Sync
	write := func(w *Wal) api.Errno { return w.Rewrite("a", "xyz") }
	clear := func(w *Wal) api.Errno { return w.Rewrite() }
	return []scene{
		{held{nil, 0}, add, held{[]string{"e", ""}, 0}},
		{held{[]string{"a", "b", "cd"}, 1}, add, held{[]string{"a", "b", "cd", "e", ""}, 1}},
		{held{[]string{"a", ""}, 0}, sync, held{[]string{"a", ""}, 2}},
		{held{[]string{"a", "", "bc"}, 1}, sync, held{[]string{"a", "", "bc"}, 3}},
		{held{nil, 0}, write, held{[]string{"a", "xyz"}, 2}},
		{held{[]string{"a", "b", ""}, 1}, write, held{[]string{"a", "xyz"}, 2}},
		{held{[]string{"", ""}, 2}, clear, held{nil, 0}},
		{held{[]string{"a", "b"}, 1}, clear, held{nil, 0}},
	}
}

// set is a disk, and its log, ahead of a scene's call.
func (s scene) set(t *testing.T) (*disk.Disk, *Wal) {
	d := disk.New(1000)
	w := opened(t, "an empty disk", d)
	w.Append(s.before.records[:s.before.firm]...)
	w.Sync()
	w.Append(s.before.records[s.before.firm:]...)
	return d, w
}

// recovers opens a disk over and over, while the power fails at each step of that, and tells if other records are there in the end than those that may be.
func recovers(t *testing.T, d *disk.Disk, may func(got []string) bool) {
	t.Helper()
	for steps := range 4 {
		for p := range 20 {
			c := d.Copy()
			c.Arm(steps)
			if _, got, err := Open(c); err == api.OK && !may(got) {
				t.Errorf("Open has %q", got)
			} else if err != api.OK && err != api.ErrPower {
				t.Errorf("Open is %d", err)
			}
			c.Crash(p/2, p%2, p/2, p%2)
			if _, got, err := Open(c); err != api.OK || !may(got) {
				t.Errorf("Open behind %d steps of another one has %q, %d", steps, got, err)
			}
		}
	}
}

func TestWhatSurvives(t *testing.T) {
	for i, s := range scenes() {
		for steps := range 6 {
			for p := range 120 {
				d, w := s.set(t)
				d.Arm(steps)
				done := s.call(w) == api.OK
				d.Crash(p/2, p%2, p/2, p%2)
				may := func(got []string) bool { return s.after.leaves(got) || !done && s.before.leaves(got) }
				if _, got, err := Open(d.Copy()); err != api.OK || !may(got) {
					t.Fatalf("scene %d, %d steps, Crash(%d, %d): Open has %q, %d", i, steps, p/2, p%2, got, err)
				}
				recovers(t, d, may)
				if t.Failed() {
					t.Fatalf("scene %d, %d steps, Crash(%d, %d)", i, steps, p/2, p%2)
				}
			}
		}
	}
}

func TestEachPrefixSurvives(t *testing.T) {
	list := []string{"a", "", "bcd"}
	size := len(form(list...))
	for remain := range size + 1 {
		for torn := range 2 {
			d := disk.New(1000)
			w := opened(t, "an empty disk", d)
			w.Append(list[:2]...)
			w.Append(list[2:]...)
			d.Crash(remain, torn)
			n := 0
			for n < len(list) && len(form(list[:n+1]...)) <= remain-torn {
				n++
			}
			w = opened(t, "what remains", d, list[:n]...)
			w.Append("more")
			w.Sync()
			d.Crash()
			opened(t, "what remains, and more", d, append(slices.Clone(list[:n]), "more")...)
		}
	}
}

// makes is what a log has behind a call, if that is done.
func (c call) makes(h held) held {
	switch c.what {
	case 0, 1, 2, 3:
		return held{append(slices.Clone(h.records), c.list...), h.firm}
	case 4, 5, 6:
		return held{h.records, len(h.records)}
	case 7:
		return held{c.list, len(c.list)}
	}
	return h
}

func TestWhatSurvivesAnyCalls(t *testing.T) {
	for seed := range int64(1000) {
		r := rand.New(rand.NewSource(seed))
		d := disk.New(150)
		w := opened(t, "an empty disk", d)
		var before, after held
		for range 100 {
			c := anyCall(r)
			if c.what < 11 && w.Broken() {
				continue
			}
			if c.what < 11 {
				switch c.of(w, d) {
				case api.OK:
					before = c.makes(before)
					after = before
				case api.ErrPower:
					after = c.makes(before)
				}
				continue
			}
			d.Crash(c.picks...)
			d.Arm(c.n)
			next, got, err := Open(d)
			for err == api.ErrPower {
				d.Crash(c.picks...)
				next, got, err = Open(d)
			}
			if err != api.OK || !before.leaves(got) && !after.leaves(got) {
				t.Fatalf("Open has %q, %d, of %v or %v", got, err, before, after)
			}
			w, before = next, held{got, len(got)}
			after = before
		}
	}
}

// R4

func TestSameCallsHaveSameResults(t *testing.T) {
	run := func() string {
		r := rand.New(rand.NewSource(7))
		d, out := disk.New(150), ""
		w, _, _ := Open(d)
		for range 300 {
			c := anyCall(r)
			if c.what == 11 {
				d.Crash(c.picks...)
				w, _, _ = Open(d)
			}
			out += c.of(w, d).Error() + ";" + remains(d, c.picks...)
		}
		return out
	}
	first := run()
	for range 5 {
		if run() != first {
			t.Fatal("the same calls have other results")
		}
	}
}

// The chapter's examples

func TestExamples(t *testing.T) {
	got, err := Record("a")
	gives(t, "example's Record", err, api.OK)
	if len(got) != 9 || got[:4] != "\x00\x00\x00\x01" || got[8:] != "\x61" {
		t.Errorf("example's Record is %q", got)
	}
	d := disk.New(1000)
	w := opened(t, "example", d)
	gives(t, "example's Append", w.Append("a", "b"), api.OK)
	gives(t, "example's Sync", w.Sync(), api.OK)
	gives(t, "example's Append", w.Append("c"), api.OK)
	d.Crash()
	w = opened(t, "example", d, "a", "b")
	gives(t, "example's Rewrite", w.Rewrite("z"), api.OK)
	opened(t, "example's Rewrite", d, "z")
}
