package record

import (
	"math"
	"math/rand"
	"slices"
	"strings"
	"testing"
	"unsafe"

	"fingerpost/api"
	"fingerpost/name"
	"fingerpost/pack"
)

// raw puts a name together, whose labels may be wrong, and which may be too long.
func raw(labels ...string) string {
	n := ""
	for _, l := range labels {
		n += string([]byte{byte(len(l))}) + l
	}
	return n + "\x00"
}

// dotted is the name of a text.
func dotted(text string) string {
	n, _ := name.Parse(text)
	return n
}

// x is n bytes of a label, or of anything.
func x(n int) string {
	return strings.Repeat("x", n)
}

// word is a number in two bytes, and long one in four.
func word(n int) string {
	return string([]byte{byte(n >> 8), byte(n)})
}

func long(n int) string {
	return word(n>>16) + word(n)
}

// to is a pointer.
func to(at int) string {
	return word(0xc000 + at)
}

// Names of the most bytes, and of one more.
var (
	most    = raw(x(63), x(63), x(63), x(61))
	tooLong = raw(x(63), x(63), x(63), x(62))
)

// numbers are those of an SOA, in which bytes look like letters and pointers; no name begins so.
const numbers = "\xc0\x00\x00\x01" + "\x01A\x00\xc0" + "\xff\xff\xff\xff" + "\x80\x00\x00\x00" + "WXYZ"

// named are the types with names.
var named = []uint16{api.TypeNS, api.TypeCNAME, api.TypePTR, api.TypeMX, api.TypeSOA}

// some are types of all kinds.
var some = append([]uint16{0, api.TypeA, api.TypeTXT, api.TypeAAAA, api.TypeOPT, 3, 4, 7, 12 + 256, 33, 255, 257, 65535}, named...)

// of is a record with data.
func of(t uint16, data string) api.RR {
	return api.RR{Name: dotted("www.a."), Type: t, Class: api.ClassIN, TTL: 60, Data: data}
}

// wire is a record as it stands in a message, whose parts may be wrong.
func wire(n string, t uint16, size int, data string) string {
	return n + word(int(t)) + "\x00\x01" + "\x00\x00\x00\x3c" + word(size) + data
}

// texts are all strings of up to most of the bytes.
func texts(bytes string, most int) []string {
	all := []string{""}
	last := all
	for range most {
		var next []string
		for _, s := range last {
			for i := range len(bytes) {
				next = append(next, s+bytes[i:i+1])
			}
		}
		all, last = append(all, next...), next
	}
	return all
}

// behindName is what stands behind a name in full, and whether data begin with one.
func behindName(data string) (string, bool) {
	size := 0
	for size < len(data) && data[size] != 0 {
		if data[size] > 63 {
			return "", false
		}
		size += 1 + int(data[size])
	}
	if size >= len(data) || size >= 255 {
		return "", false
	}
	return data[size+1:], true
}

// model reports by the chapter's words whether data are valid.
func model(t uint16, data string) bool {
	switch t {
	case 1:
		return len(data) == 4
	case 28:
		return len(data) == 16
	case 2, 5, 12:
		rest, ok := behindName(data)
		return ok && rest == ""
	case 15:
		return len(data) >= 2 && model(2, data[2:])
	case 6:
		mail, ok := behindName(data)
		rest, right := behindName(mail)
		return ok && right && len(rest) == 20
	case 16:
		if data == "" || len(data) < 1+int(data[0]) {
			return false
		}
		rest := data[1+int(data[0]):]
		return rest == "" || model(16, rest)
	}
	return true
}

// checked tells of a Check that differs from the model, of data that are not too long.
func checked(t *testing.T, r api.RR) {
	t.Helper()
	want := api.OK
	if !model(r.Type, r.Data) {
		want = api.ErrForm
	}
	if err := Check(r); err != want {
		t.Errorf("Check of type %d with %d bytes %.40q is %d, want %d", r.Type, len(r.Data), r.Data, err, want)
	}
}

// valids are records of all types that are right, ordinary ones and edges.
func valids() []api.RR {
	var out []api.RR
	for _, t := range []uint16{api.TypeNS, api.TypeCNAME, api.TypePTR} {
		for _, n := range []string{"\x00", dotted("a."), dotted("www.A."), dotted("x.www.a."), raw(x(63)), raw("\x00", "\xc0\x00", "a.b"), most} {
			out = append(out, of(t, n))
		}
	}
	for _, ahead := range []string{"\x00\x00", "\x00\x0a", "\x01a", "\xc0\x00", "\xff\xff", "AB"} {
		out = append(out, of(api.TypeMX, ahead+"\x00"), of(api.TypeMX, ahead+dotted("mail.A.")), of(api.TypeMX, ahead+most))
	}
	for _, pair := range [][2]string{{"\x00", "\x00"}, {dotted("a."), dotted("a.")}, {dotted("ns.a."), dotted("Admin.a.")}, {most, "\x00"}, {"\x00", most}, {most, most}} {
		out = append(out, of(api.TypeSOA, pair[0]+pair[1]+numbers), of(api.TypeSOA, pair[0]+pair[1]+strings.Repeat("\x00", 20)), of(api.TypeSOA, pair[0]+pair[1]+strings.Repeat("\xff", 20)))
	}
	out = append(out, of(api.TypeA, "\x01\x02\x03\x04"), of(api.TypeA, "\x00\x00\x00\x00"), of(api.TypeA, "\x02a\xc0\x00"), of(api.TypeAAAA, "0123456789ABCDEF"))
	for _, data := range []string{"\x00", "\x00\x00", "\x01a", "\x03abc\x00\x01A", "\xff" + x(255), "\xff" + x(255) + "\x00\xff" + x(255), strings.Repeat("\xf9"+x(249), 8), strings.Repeat("\x00", 2000)} {
		out = append(out, of(api.TypeTXT, data))
	}
	for _, t := range []uint16{0, 3, api.TypeOPT, 255, 256 + api.TypeA, 65535} {
		for _, data := range []string{"", "\x00", "a", dotted("www.a."), "\x01A\x00", "\xc0\x00", x(1999), x(2000)} {
			out = append(out, of(t, data))
		}
	}
	for i := range out { // names, classes and TTLs of all kinds
		out[i].Class = []uint16{1, 1, 0, 3, 255, 65535, 4096}[i%7]
		out[i].TTL = []uint32{60, 0, 1, math.MaxUint32, 1 << 31, 1<<31 - 1}[i%6]
		out[i].Name = []string{dotted("www.a."), "\x00", dotted("WWW.a."), most, raw("\x00.", "\xff")}[i%5]
	}
	return out
}

// wrongs are records of which each is wrong in one way.
func wrongs() map[api.Errno][]api.RR {
	out := map[api.Errno][]api.RR{}
	for _, n := range []string{"", "a", "\x01", "\x01a", "www.a.", "\x01a\x00\x00", "\xc0\x00", "\x40" + x(64) + "\x00", tooLong + "\x00"} {
		r := of(api.TypeA, "\x01\x02\x03\x04")
		r.Name = n
		out[api.ErrForm] = append(out[api.ErrForm], r)
	}
	r := of(api.TypeA, "\x01\x02\x03\x04")
	r.Name = tooLong
	out[api.ErrSize] = append(out[api.ErrSize], r)
	for _, t := range some {
		out[api.ErrSize] = append(out[api.ErrSize], of(t, strings.Repeat("\x00", 2001)), of(t, x(2001)), of(t, x(70000)))
	}
	for _, n := range []string{"", "a", "\x01", "\x01a", "\x01a\x00\x00", "\x00\x00", "\x01a\xc0\x00", "\xc0\x00", "\x40" + x(64) + "\x00", tooLong, strings.Repeat("\x01a", 128) + "\x00", "\xff"} {
		out[api.ErrForm] = append(out[api.ErrForm], of(api.TypeNS, n), of(api.TypeCNAME, n), of(api.TypePTR, n), of(api.TypeMX, "\x00\x0a"+n),
			of(api.TypeSOA, n), of(api.TypeSOA, "\x00"+n), of(api.TypeSOA, "\x00"+n+numbers), of(api.TypeSOA, tooLong+n+numbers), of(api.TypeSOA, n+tooLong+numbers))
	}
	out[api.ErrForm] = append(out[api.ErrForm], of(api.TypeA, ""), of(api.TypeA, "abc"), of(api.TypeA, "abcde"), of(api.TypeA, "0123456789ABCDEF"), of(api.TypeA, x(2000)), of(api.TypeAAAA, ""), of(api.TypeAAAA, "abcd"), of(api.TypeAAAA, x(15)), of(api.TypeAAAA, x(17)),
		of(api.TypeTXT, ""), of(api.TypeTXT, "\x01"), of(api.TypeTXT, "\x02a"), of(api.TypeTXT, "\x00\x01"), of(api.TypeTXT, "\x01a\x01"), of(api.TypeTXT, "\xff"+x(254)), of(api.TypeTXT, strings.Repeat("\x00", 1999)+"\x01"), of(api.TypeTXT, "\x01ab"),
		of(api.TypeMX, ""), of(api.TypeMX, "\x00"), of(api.TypeMX, "\x00\x00"), of(api.TypeMX, "\x00\x00\xc0\x00"), of(api.TypeMX, dotted("ab.")), of(api.TypeNS, "\x00\x0a"+dotted("a.")),
		of(api.TypeSOA, "\x01a\x00\xc0\x00"+numbers), of(api.TypeSOA, "\x01a\x00\xc0\x00"+numbers+"x"), of(api.TypeMX, "\x01a\x00\xc0\x00"), of(api.TypeMX, "\x02a\x01\x00\xc0\x00"), of(api.TypeSOA, "\x01a\x00"+numbers), of(api.TypeSOA, "\x00\x00"+numbers[:19]), of(api.TypeSOA, "\x00\x00"+numbers+"x"), of(api.TypeSOA, "\x00\x00\x00"+numbers))
	return out
}

// P5.1

func TestCheckOfValidRecords(t *testing.T) {
	for _, r := range valids() {
		if err := Check(r); err != api.OK {
			t.Errorf("Check of type %d with %d bytes %.40q is %d", r.Type, len(r.Data), r.Data, err)
		}
		checked(t, r)
	}
}

func TestCheckOfWrongRecords(t *testing.T) {
	for want, records := range wrongs() {
		for _, r := range records {
			if err := Check(r); err != want {
				t.Errorf("Check of %.9q, type %d with %d bytes %.40q is %d, want %d", r.Name, r.Type, len(r.Data), r.Data, err, want)
			}
		}
	}
	if err := Check(api.RR{}); err != api.ErrForm {
		t.Errorf("Check of a zero record is %d", err)
	}
}

func TestCheckOfEachSize(t *testing.T) {
	for size := range 300 {
		for _, kind := range some {
			checked(t, of(kind, x(size)))
			checked(t, of(kind, strings.Repeat("\x00", size)))
			checked(t, of(kind, strings.Repeat("\x01", size)))
			checked(t, of(kind, strings.Repeat("\x01", size)+"\x00"))
		}
	}
}

func TestCheckOfAllShortData(t *testing.T) {
	for _, s := range texts("\x00\x01\x02\x03a\x40\xc0", 5) {
		for _, r := range []api.RR{of(api.TypeNS, s), of(api.TypeCNAME, s), of(api.TypePTR, s), of(api.TypeMX, s), of(api.TypeMX, "\xc0\x00"+s), of(api.TypeTXT, s), of(api.TypeA, s), of(api.TypeAAAA, s), of(api.TypeOPT, s), of(api.TypeSOA, s), of(api.TypeSOA, s+numbers), of(api.TypeSOA, s+numbers[:18]), of(api.TypeSOA, s+numbers+"x")} {
			checked(t, r)
		}
	}
}

// Only the types with a rule of their own have one, whatever their class.
func TestCheckOfEachType(t *testing.T) {
	for kind := range 65536 {
		for _, data := range []string{"", "\x03ab", "\x01\x02\x03\x04", "\x00\x01a\x00", x(16)} {
			r := of(uint16(kind), data)
			checked(t, r)
			r.Class = uint16(kind)
			checked(t, r)
		}
	}
}

// The name counts ahead of the data's size, and that ahead of what they are.
func TestCheckTellsTheFirstError(t *testing.T) {
	for _, c := range []struct {
		n, data string
		want    api.Errno
	}{
		{"", x(2001), api.ErrForm}, {"\xc0\x00", "", api.ErrForm}, {tooLong, x(2001), api.ErrSize}, {tooLong, "abc", api.ErrSize}, {tooLong, "abcd", api.ErrSize},
		{dotted("a."), x(2001), api.ErrSize}, {dotted("a."), x(2000), api.ErrForm}, {dotted("a."), "abc", api.ErrForm}, {dotted("a."), "abcd", api.OK},
	} {
		if err := Check(api.RR{Name: c.n, Type: api.TypeA, Data: c.data}); err != c.want {
			t.Errorf("Check of %.9q with %d bytes is %d, want %d", c.n, len(c.data), err, c.want)
		}
	}
}

// P5.2

func TestTarget(t *testing.T) {
	for _, n := range []string{"\x00", dotted("a."), dotted("WWW.a."), raw("\xc0\x00"), most} {
		for _, r := range []api.RR{of(api.TypeNS, n), of(api.TypeCNAME, n), of(api.TypePTR, n), of(api.TypeMX, "\x01b"+n), of(api.TypeMX, "\x00\x00"+n), of(api.TypeSOA, n+dotted("b.")+numbers), of(api.TypeSOA, n+"\x00"+numbers)} {
			if got, ok := Target(r); got != n || !ok {
				t.Errorf("Target of type %d with %q is %q, %t", r.Type, r.Data, got, ok)
			}
		}
	}
	for _, r := range valids() {
		if got, ok := Target(r); ok != slices.Contains(named, r.Type) || !ok && got != "" {
			t.Errorf("Target of type %d with %.40q is %q, %t", r.Type, r.Data, got, ok)
		}
	}
	for _, records := range wrongs() {
		for _, r := range records {
			if got, ok := Target(r); got != "" || ok {
				t.Errorf("Target of type %d with %.40q is %q, %t", r.Type, r.Data, got, ok)
			}
		}
	}
	r := of(api.TypeNS, dotted("a."))
	r.Name = ""
	if got, ok := Target(r); got != "" || ok {
		t.Errorf("Target of a record with a wrong name is %q, %t", got, ok)
	}
}

func TestSoa(t *testing.T) {
	want := api.Soa{Source: dotted("ns.a."), Mail: dotted("Admin.a."), Serial: 0xc0000001, Refresh: 0x014100c0, Retry: math.MaxUint32, Expire: 1 << 31, Minimum: 0x5758595a}
	if got, err := Soa(of(api.TypeSOA, dotted("ns.a.")+dotted("Admin.a.")+numbers)); got != want || err != api.OK {
		t.Errorf("Soa is %v, %d", got, err)
	}
	if got, err := SoaData(want); got != dotted("ns.a.")+dotted("Admin.a.")+numbers || err != api.OK {
		t.Errorf("SoaData is %q, %d", got, err)
	}
	for _, r := range valids() {
		got, err := Soa(r)
		if r.Type != api.TypeSOA {
			if got != (api.Soa{}) || err != api.ErrNone {
				t.Errorf("Soa of type %d is %v, %d", r.Type, got, err)
			}
			continue
		}
		data, wrong := SoaData(got)
		if err != api.OK || wrong != api.OK || data != r.Data {
			t.Errorf("SoaData of Soa of %.40q is %.40q, %d, %d", r.Data, data, err, wrong)
		}
	}
	// Another type counts ahead of what else is wrong.
	for want, records := range wrongs() {
		for _, r := range records {
			wrong := want
			if r.Type != api.TypeSOA {
				wrong = api.ErrNone
			}
			if got, err := Soa(r); got != (api.Soa{}) || err != wrong {
				t.Errorf("Soa of type %d with %.40q is %v, %d, want %d", r.Type, r.Data, got, err, wrong)
			}
		}
	}
	for n, want := range map[string]api.Errno{"": api.ErrForm, tooLong: api.ErrSize} {
		if got, err := Soa(api.RR{Name: n, Type: api.TypeSOA, Data: "\x00\x00" + numbers}); got != (api.Soa{}) || err != want {
			t.Errorf("Soa of a record with a wrong name is %v, %d", got, err)
		}
	}
}

func TestSoaData(t *testing.T) {
	for _, c := range []struct {
		source, mail string
		want         api.Errno
	}{
		{"\x00", "\x00", api.OK}, {most, most, api.OK}, {dotted("a."), dotted("a."), api.OK}, {dotted("x.a."), dotted("a."), api.OK},
		{"", "\x00", api.ErrForm}, {"\x00", "", api.ErrForm}, {"a.", dotted("a."), api.ErrForm}, {dotted("a."), "\xc0\x00", api.ErrForm}, {dotted("a."), dotted("a.") + "\x00", api.ErrForm},
		{tooLong, dotted("a."), api.ErrSize}, {dotted("a."), tooLong, api.ErrSize}, {tooLong, "", api.ErrSize}, {"", tooLong, api.ErrForm}, {tooLong, tooLong, api.ErrSize},
	} {
		s := api.Soa{Source: c.source, Mail: c.mail, Serial: 1 << 31, Refresh: 2, Retry: 3, Expire: 4, Minimum: math.MaxUint32}
		data, err := SoaData(s)
		if err != c.want {
			t.Errorf("SoaData of %.9q and %.9q is %d, want %d", c.source, c.mail, err, c.want)
		}
		if c.want != api.OK {
			if data != "" {
				t.Errorf("SoaData answers %q beside an error", data)
			}
			continue
		}
		if want := c.source + c.mail + "\x80\x00\x00\x00" + "\x00\x00\x00\x02" + "\x00\x00\x00\x03" + "\x00\x00\x00\x04" + "\xff\xff\xff\xff"; data != want {
			t.Errorf("SoaData is %q, want %q", data, want)
		}
		if got, err := Soa(of(api.TypeSOA, data)); got != s || err != api.OK {
			t.Errorf("Soa of what SoaData answers is %v, %d", got, err)
		}
	}
	if data, err := SoaData(api.Soa{}); data != "" || err != api.ErrForm {
		t.Errorf("SoaData of a zero Soa is %q, %d", data, err)
	}
}

// P5.3

// got tells of a Get that answers other things.
func got(t *testing.T, s string, at int, want api.RR, after int, wrong api.Errno) {
	t.Helper()
	if r, behind, err := Get(s, at); r != want || behind != after || err != wrong {
		t.Errorf("Get of %d bytes %.60q at %d is %.60q, %d, %d, want %.60q, %d, %d", len(s), s, at, r.Data, behind, err, want.Data, after, wrong)
	}
}

// fails tells of a Get that has no such error.
func fails(t *testing.T, s string, at int, wrong api.Errno) {
	t.Helper()
	got(t, s, at, api.RR{}, 0, wrong)
}

func TestGetOfTheExample(t *testing.T) {
	s := "\x03www\x01a\x00\x00\x01\x00\x01\x00\x00\x00\x3c\x00\x04\x01\x02\x03\x04"
	got(t, s, 0, of(api.TypeA, "\x01\x02\x03\x04"), 21, api.OK)
	got(t, s+"more", 0, of(api.TypeA, "\x01\x02\x03\x04"), 21, api.OK)
	r := of(api.TypeA, "\x01\x02\x03\x04")
	r.Name = dotted("a.")
	got(t, s, 4, r, 21, api.OK)
	r.Name, r.Type, r.Class, r.TTL, r.Data = "\x00", 0xfedc, 0xba98, 0xf1e2d3c4, "\xff"
	got(t, "12\x00\xfe\xdc\xba\x98\xf1\xe2\xd3\xc4\x00\x01\xff", 2, r, 14, api.OK)
}

func TestGetOfRecordsInFull(t *testing.T) {
	for _, r := range valids() {
		full := r.Name + word(int(r.Type)) + word(int(r.Class)) + long(int(r.TTL)) + word(len(r.Data)) + r.Data
		for _, ahead := range []string{"", "\x00", "\xc0\x00", x(20000)} {
			got(t, ahead+full, len(ahead), r, len(ahead)+len(full), api.OK)
			got(t, ahead+full+"\x00\x00", len(ahead), r, len(ahead)+len(full), api.OK)
		}
		if len(full) > 600 {
			continue
		}
		for size := range len(full) { // bytes are missing
			fails(t, "ab"+full[:size], 2, api.ErrForm)
		}
	}
}

func TestGetFollowsPointers(t *testing.T) {
	ahead := dotted("www.a.") + dotted("mail.b.") // at 0 and 7; a. at 4, b. at 12
	at := len(ahead)
	for _, c := range []struct {
		n, data string
		kind    uint16
		want    string
	}{
		{to(0), to(0), api.TypeNS, dotted("www.a.")},
		{to(0), "\x02ns" + to(4), api.TypeCNAME, dotted("ns.a.")},
		{dotted("www.a."), to(at), api.TypePTR, dotted("www.a.")},  // to the record's own name
		{"\x03www" + to(4), to(at), api.TypePTR, dotted("www.a.")}, // which points
		{to(0), to(at + 6), api.TypeNS, "\x00"},                    // into its TTL
		{to(0), "\x00", api.TypeNS, "\x00"},
		{to(0), "\x00\x0a" + to(7), api.TypeMX, "\x00\x0a" + dotted("mail.b.")},
		{to(0), "\xc0\x00" + to(7), api.TypeMX, "\xc0\x00" + dotted("mail.b.")}, // ahead of the name nothing points
		{to(0), "\x01b\x01x" + to(4), api.TypeMX, "\x01b" + dotted("x.a.")},
		{to(0), to(7) + to(12) + numbers, api.TypeSOA, dotted("mail.b.") + dotted("b.") + numbers},
	} {
		s := ahead + wire(c.n, c.kind, len(c.data), c.data)
		got(t, s, at, of(c.kind, c.want), len(s), api.OK)
		got(t, s+to(0), at, of(c.kind, c.want), len(s), api.OK)
	}
	// The second name may point into the first one, and to its beginning.
	first := at + 2 + 10 // where the data begin
	for mail, want := range map[string]string{to(first): dotted("ns.a."), to(first + 3): dotted("a."), "\x01m" + to(first+3): dotted("m.a.")} {
		s := ahead + wire(to(0), api.TypeSOA, 5+len(mail)+20, "\x02ns"+to(4)+mail+numbers)
		got(t, s, at, of(api.TypeSOA, dotted("ns.a.")+want+numbers), len(s), api.OK)
	}
	// In other types nothing points.
	for kind, data := range map[uint16]string{api.TypeA: to(0) + to(4), api.TypeOPT: to(0), 65535: "\x01x" + to(4), api.TypeTXT: "\x02" + to(0)} {
		s := ahead + wire(to(0), kind, len(data), data)
		got(t, s, at, of(kind, data), len(s), api.OK)
	}
}

func TestGetOfWrongPointers(t *testing.T) {
	for _, kind := range named {
		front, back := "", ""
		switch kind {
		case api.TypeMX:
			front = "\x00\x00"
		case api.TypeSOA:
			front, back = "\x00", numbers
		}
		start := 3 + 10 + len(front)
		for _, n := range []string{to(start), to(start + 1), to(start + 2), to(1000), "\xff\xff", "\x01b" + to(start), "\x01b" + to(start+2), "\x40\x00", "\x80" + x(128) + "\x00"} {
			data := front + n + back
			fails(t, dotted("a.")+wire("", kind, len(data), data)+"\x00\x00\x00", 0, api.ErrForm)
		}
		data := front + to(0) + back
		if _, after, err := Get(dotted("a.")+wire("", kind, len(data), data), 0); after != 13+len(data) || err != api.OK {
			t.Errorf("type %d with a right pointer: %d, %d", kind, after, err)
		}
	}
}

// The names in data end exactly where the data do, whatever stands behind them.
func TestGetOfDataThatEndElsewhere(t *testing.T) {
	for _, c := range []struct {
		kind uint16
		data string
	}{
		{api.TypeNS, dotted("ns.a.")}, {api.TypeCNAME, to(0)}, {api.TypePTR, "\x01b" + to(0)}, {api.TypePTR, "\x00"}, {api.TypeMX, "\x00\x0a" + dotted("b.")}, {api.TypeMX, "\x00\x0a" + to(0)},
		{api.TypeSOA, "\x00\x00" + numbers}, {api.TypeSOA, to(0) + dotted("b.") + numbers},
	} {
		for size := range len(c.data) + 40 {
			s := wire(dotted("a."), c.kind, size, c.data)
			missing := ""
			if size > len(c.data) {
				missing = strings.Repeat("\x00", size-len(c.data))
				fails(t, s, 0, api.ErrForm)
			}
			_, after, err := Get(s+missing+x(300), 0)
			if size == len(c.data) && (after != len(s) || err != api.OK) || size != len(c.data) && (after != 0 || err != api.ErrForm) {
				t.Errorf("type %d, %d bytes of data that say they are %d: %d, %d", c.kind, len(c.data), size, after, err)
			}
		}
		// Even if they say to be more than data may have.
		fails(t, wire(dotted("a."), c.kind, 2001, c.data)+x(2001), 0, api.ErrForm)
	}
}

func TestGetOfTheSizes(t *testing.T) {
	for _, c := range []struct {
		kind  uint16
		size  int
		data  string
		wrong api.Errno
	}{
		{api.TypeOPT, 2000, x(2000), api.OK}, {api.TypeOPT, 2001, x(2001), api.ErrSize}, {0, 65535, x(65535), api.ErrSize}, {0, 65535, x(65534), api.ErrForm}, {0, 2001, x(2000), api.ErrForm}, {0, 0, "", api.OK},
		{api.TypeA, 2001, x(2001), api.ErrSize}, {api.TypeA, 2000, x(2000), api.ErrForm}, {api.TypeA, 3, "abc", api.ErrForm}, {api.TypeA, 5, "abcde", api.ErrForm}, {api.TypeA, 0, "", api.ErrForm}, {api.TypeAAAA, 15, x(15), api.ErrForm}, {api.TypeAAAA, 17, x(17), api.ErrForm}, {api.TypeAAAA, 16, x(16), api.OK},
		{api.TypeTXT, 0, "", api.ErrForm}, {api.TypeTXT, 1, "\x00", api.OK}, {api.TypeTXT, 2000, strings.Repeat("\x00", 2000), api.OK}, {api.TypeTXT, 2001, strings.Repeat("\x00", 2001), api.ErrSize}, {api.TypeTXT, 2, "\x02ab", api.ErrForm}, {api.TypeTXT, 2001, "\xff" + x(2000), api.ErrSize},
	} {
		s := wire(dotted("www.a."), c.kind, c.size, c.data)
		if c.wrong != api.OK {
			fails(t, s, 0, c.wrong)
			continue
		}
		got(t, s, 0, of(c.kind, c.data), len(s), api.OK)
		got(t, s+"\x00", 0, of(c.kind, c.data), len(s), api.OK)
	}
}

// That bytes are missing counts ahead of a name that is too long, and that ahead of where it ends.
func TestGetTellsTheFirstError(t *testing.T) {
	fails(t, wire(tooLong, api.TypeA, 3, "abc"), 0, api.ErrSize)
	fails(t, wire(tooLong, api.TypeA, 9999, ""), 0, api.ErrSize)
	fails(t, tooLong, 0, api.ErrSize)
	fails(t, wire("\x01a\xc0\x00", api.TypeOPT, 2001, x(2001)), 0, api.ErrForm)
	for _, kind := range []uint16{api.TypeNS, api.TypeCNAME, api.TypePTR} {
		fails(t, wire("\x00", kind, len(tooLong), tooLong), 0, api.ErrSize)
		fails(t, wire("\x00", kind, len(tooLong)+1, tooLong), 0, api.ErrForm)
		fails(t, wire("\x00", kind, len(tooLong)+1, tooLong+"\x00"), 0, api.ErrSize)
		fails(t, wire("\x00", kind, 2001, tooLong+x(2000)), 0, api.ErrSize)
		fails(t, wire("\x00", kind, 4, tooLong), 0, api.ErrSize) // the name is read as it stands, beyond the data's end
		fails(t, wire("\x00", kind, 4, most), 0, api.ErrForm)
		label := strings.TrimSuffix(raw(x(63)), "\x00")
		fails(t, raw(x(63), x(63), x(63))+wire("\x00", kind, 66, label+to(0)), 193, api.ErrSize) // 257 bytes by a pointer
		s := raw(x(63), x(63), x(63)) + wire(dotted("www.a."), kind, 64, "\x3d"+x(61)+to(0))
		got(t, s, 193, of(kind, raw(x(61), x(63), x(63), x(63))), len(s), api.OK)
	}
	fails(t, wire("\x00", api.TypeMX, 2+len(tooLong), "\x00\x00"+tooLong), 0, api.ErrSize)
	fails(t, wire("\x00", api.TypeMX, 3+len(tooLong), "\x00\x00"+tooLong), 0, api.ErrForm)
	fails(t, wire("\x00", api.TypeSOA, len(tooLong), tooLong), 0, api.ErrSize)
	fails(t, wire("\x00", api.TypeSOA, 1+len(tooLong), "\x00"+tooLong), 0, api.ErrSize)
	fails(t, wire("\x00", api.TypeSOA, 4, "\x01a\xc0\x0b"+tooLong), 0, api.ErrForm)
	fails(t, wire("\x00", api.TypeSOA, 21, "\x00"+numbers), 0, api.ErrForm)
}

// far are offsets of which no string has so many bytes.
func far() []int {
	return []int{math.MinInt, math.MinInt + 1, -1 << 32, -3, -2, -1, 1 << 32, 1<<32 + 1, math.MaxInt - 10, math.MaxInt - 1, math.MaxInt}
}

func TestGetAtOffsetsThatAreNotThere(t *testing.T) {
	full := wire("\x00", api.TypeA, 4, "abcd")
	for _, s := range []string{"", "\x00", full, full + full} {
		for _, at := range append(far(), len(s), len(s)+1) {
			fails(t, s, at, api.ErrForm)
		}
	}
}

// modelGet reads a record by the chapter's words.
func modelGet(s string, at int) (api.RR, int, api.Errno) {
	n, at, err := pack.Name(s, at)
	if err != api.OK {
		return api.RR{}, 0, err
	}
	if len(s)-at < 10 {
		return api.RR{}, 0, api.ErrForm
	}
	number := func(at, size int) int {
		n := 0
		for _, b := range []byte(s[at : at+size]) {
			n = n*256 + int(b)
		}
		return n
	}
	r := api.RR{Name: n, Type: uint16(number(at, 2)), Class: uint16(number(at+2, 2)), TTL: uint32(number(at+4, 4))}
	start := at + 10
	end := start + number(at+8, 2)
	if end > len(s) {
		return api.RR{}, 0, api.ErrForm
	}
	r.Data, at = s[start:end], end
	if slices.Contains(named, r.Type) {
		if r, at, err = modelNames(r, s, start); err != api.OK {
			return api.RR{}, 0, err
		}
	}
	switch {
	case at != end:
		return api.RR{}, 0, api.ErrForm
	case len(r.Data) > 2000:
		return api.RR{}, 0, api.ErrSize
	case !model(r.Type, r.Data):
		return api.RR{}, 0, api.ErrForm
	}
	return r, end, api.OK
}

// modelNames reads the data of a type with names.
func modelNames(r api.RR, s string, at int) (api.RR, int, api.Errno) {
	r.Data = ""
	if r.Type == api.TypeMX {
		if len(s)-at < 2 {
			return r, 0, api.ErrForm
		}
		r.Data, at = s[at:at+2], at+2
	}
	n, at, err := pack.Name(s, at)
	if r.Data += n; r.Type != api.TypeSOA || err != api.OK {
		return r, at, err
	}
	n, at, err = pack.Name(s, at)
	if err != api.OK {
		return r, at, err
	}
	if len(s)-at < 20 {
		return r, 0, api.ErrForm
	}
	r.Data += n + s[at:at+20]
	return r, at + 20, api.OK
}

// likeModel tells of a Get that differs from the model, at any offset, and of a record that is not right.
func likeModel(t *testing.T, s string) {
	t.Helper()
	for at := -1; at <= len(s); at++ {
		want, after, wrong := modelGet(s, at)
		r, behind, err := Get(s, at)
		if r != want || behind != after || err != wrong {
			t.Fatalf("Get of %q at %d is %#v, %d, %d, want %#v, %d, %d", s, at, r, behind, err, want, after, wrong)
		}
		if err == api.OK && Check(r) != api.OK {
			t.Fatalf("Get of %q at %d is %#v, which Check does not like", s, at, r)
		}
	}
}

func TestGetOfAllShortData(t *testing.T) {
	for _, s := range texts("\x00\x01a\xc0", 4) {
		for _, kind := range some {
			for size := range 7 {
				likeModel(t, "\x01a"+wire("\x00", kind, size, s))
				likeModel(t, "\x01a"+wire("\x00", kind, size+20, s+numbers))
			}
		}
	}
}

func TestGetOfRandomStrings(t *testing.T) {
	r := rand.New(rand.NewSource(1))
	for range 3000 {
		s := ""
		for range 1 + r.Intn(5) {
			data := ""
			for range r.Intn(6) {
				data += []string{"\x00", "\x01a", "\x01b\x00", to(r.Intn(1 + len(s))), numbers, x(r.Intn(30)), raw(x(63)), "\x3f" + x(63), "\x00\x05", string([]byte{byte(r.Intn(256))})}[r.Intn(10)]
			}
			size := len(data)
			if r.Intn(4) == 0 {
				size += r.Intn(7) - 3
			}
			s += wire([]string{"\x00", "\x01a\x00", to(r.Intn(1 + len(s))), "\x01c" + to(0)}[r.Intn(4)], some[r.Intn(len(some))], max(size, 0), data)
		}
		likeModel(t, s)
	}
}

// P5.4

func TestPutOfTheExample(t *testing.T) {
	p := pack.New()
	if err := Put(p, of(api.TypeA, "\x01\x02\x03\x04")); err != api.OK {
		t.Errorf("Put is %d", err)
	}
	want := "\x03www\x01a\x00\x00\x01\x00\x01\x00\x00\x00\x3c\x00\x04\x01\x02\x03\x04"
	if p.Bytes() != want {
		t.Errorf("Put appends %q", p.Bytes())
	}
	r := api.RR{Name: dotted("a."), Type: 0xfedc, Class: 0xba98, TTL: 0xf1e2d3c4, Data: "\x00"}
	if err := Put(p, r); err != api.OK || p.Bytes() != want+to(4)+"\xfe\xdc\xba\x98\xf1\xe2\xd3\xc4\x00\x01\x00" {
		t.Errorf("then Put appends %q, %d", p.Bytes(), err)
	}
}

func TestPutPoints(t *testing.T) {
	for _, c := range []struct {
		kind       uint16
		data, want string
	}{
		{api.TypeNS, dotted("www.a."), to(0)}, {api.TypeCNAME, dotted("ns.a."), "\x02ns" + to(4)}, {api.TypePTR, dotted("b."), dotted("b.")}, {api.TypePTR, "\x00", "\x00"}, {api.TypeNS, dotted("www.A."), dotted("www.A.")},
		{api.TypeMX, "\x00\x0a" + dotted("mail.a."), "\x00\x0a\x04mail" + to(4)}, {api.TypeMX, "\x01a" + dotted("a."), "\x01a" + to(4)}, {api.TypeMX, "\x00\x00\x00", "\x00\x00\x00"},
		{api.TypeSOA, dotted("ns.a.") + dotted("m.ns.a.") + numbers, "\x02ns" + to(4) + "\x01m" + to(17) + numbers}, {api.TypeSOA, dotted("b.") + dotted("b.") + numbers, dotted("b.") + to(17) + numbers}, {api.TypeSOA, "\x00\x00" + numbers, "\x00\x00" + numbers},
		{api.TypeTXT, "\x07" + dotted("www.a."), "\x07" + dotted("www.a.")}, {api.TypeOPT, dotted("www.a."), dotted("www.a.")}, {65535, dotted("a.") + dotted("a."), dotted("a.") + dotted("a.")}, {api.TypeA, dotted("aa."), dotted("aa.")}, {0, "", ""},
	} {
		r := of(c.kind, c.data)
		p := pack.New()
		err := Put(p, r)
		want := wire(dotted("www.a."), c.kind, len(c.want), c.want)
		if err != api.OK || p.Bytes() != want {
			t.Errorf("Put of type %d with %q appends %q, %d, want %q", c.kind, c.data, p.Bytes(), err, want)
		}
		got(t, p.Bytes(), 0, r, len(want), api.OK)
	}
}

// Names in the data of a type with names become known, and those in other data do not.
func TestPutMakesNamesKnown(t *testing.T) {
	p := pack.New()
	Put(p, of(api.TypeOPT, dotted("x.b.")))
	Put(p, of(api.TypeMX, "\x01c"+dotted("x.b.")))
	Put(p, of(api.TypeNS, dotted("y.b.")))
	Put(p, of(api.TypeSOA, dotted("c.")+dotted("c.")+numbers))
	want := wire(dotted("www.a."), api.TypeOPT, 5, dotted("x.b."))
	want += wire(to(0), api.TypeMX, 7, "\x01c"+dotted("x.b."))
	b := len(want) - 3
	want += wire(to(0), api.TypeNS, 4, "\x01y"+to(b))
	c := len(want) + 12
	want += wire(to(0), api.TypeSOA, 25, dotted("c.")+to(c)+numbers)
	if p.Bytes() != want {
		t.Errorf("Put appends %q, want %q", p.Bytes(), want)
	}
}

func TestPutOfWrongRecords(t *testing.T) {
	for want, records := range wrongs() {
		for _, r := range records {
			p := pack.New()
			p.Name(dotted("b."), true)
			if err := Put(p, r); err != want || p.Bytes() != dotted("b.") {
				t.Errorf("Put of type %d with %.40q is %d, %q, want %d", r.Type, r.Data, err, p.Bytes(), want)
			}
			p.Name(dotted("www.a."), true)
			if p.Bytes() != dotted("b.")+dotted("www.a.") {
				t.Errorf("Put of a wrong record made its name known: %q", p.Bytes())
			}
			if err := Put(nil, r); err != api.ErrArg {
				t.Errorf("Put of a wrong record into no packer is %d", err)
			}
		}
	}
	if err := Put(nil, of(api.TypeA, "abcd")); err != api.ErrArg {
		t.Errorf("Put into no packer is %d", err)
	}
	var zero pack.Packer
	if err := Put(&zero, of(api.TypeA, "abcd")); err != api.OK || zero.Len() != 21 {
		t.Errorf("Put into a zero packer is %d", err)
	}
}

// P5.5

func TestLife(t *testing.T) {
	for ttl, want := range map[uint32]uint32{0: 0, 1: 1, 60: 60, 1 << 30: 1 << 30, 1<<31 - 1: 1<<31 - 1, 1 << 31: 0, 1<<31 + 1: 0, 3 << 30: 0, math.MaxUint32: 0} {
		if got := Life(ttl); got != want {
			t.Errorf("Life of %d is %d, want %d", ttl, got, want)
		}
	}
}

func TestAlike(t *testing.T) {
	for _, c := range []struct {
		kind uint16
		a, b string
		want bool
	}{
		{api.TypeNS, dotted("ns.a."), dotted("NS.a."), true}, {api.TypeCNAME, dotted("ns.a."), dotted("nS.A."), true}, {api.TypePTR, "\x00", "\x00", true}, {api.TypeNS, dotted("ns.a."), dotted("ns.b."), false}, {api.TypeNS, dotted("a."), dotted("ns.a."), false}, {api.TypeNS, raw("["), raw("{"), false}, {api.TypeNS, raw("@"), raw("`"), false},
		{api.TypeMX, "\x00\x0a" + dotted("m.a."), "\x00\x0a" + dotted("M.A."), true}, {api.TypeMX, "AB" + dotted("m.a."), "AB" + dotted("M.a."), true}, {api.TypeMX, "AB" + dotted("m.a."), "ab" + dotted("m.a."), false}, {api.TypeMX, "\x00A\x00", "\x00a\x00", false}, {api.TypeMX, "\x00\x0a" + dotted("m.a."), "\x00\x0b" + dotted("m.a."), false}, {api.TypeMX, "\x00\x0a" + dotted("m.a."), "\x00\x0a" + dotted("n.a."), false},
		{api.TypeSOA, dotted("ns.a.") + dotted("m.a.") + numbers, dotted("NS.a.") + dotted("m.A.") + numbers, true}, {api.TypeSOA, "\x00\x00" + numbers, "\x00\x00" + strings.ToLower(numbers), false}, {api.TypeSOA, "\x00\x00" + x(20), "\x00\x00" + x(19) + "X", false}, {api.TypeSOA, "\x00\x00" + x(20), "\x00\x00" + "X" + x(19), false}, {api.TypeSOA, dotted("a.") + dotted("b.") + numbers, dotted("b.") + dotted("a.") + numbers, false}, {api.TypeSOA, dotted("a.") + "\x00" + numbers, dotted("a.") + dotted("b.") + numbers, false},
		{api.TypeA, "abcd", "abcd", true}, {api.TypeA, "abcd", "abcD", false}, {api.TypeA, "\x02ab\x00", "\x02AB\x00", false}, {api.TypeAAAA, x(16), x(15) + "X", false}, {api.TypeTXT, "\x01a", "\x01A", false}, {api.TypeTXT, "\x02ab", "\x02ab", true}, {api.TypeTXT, "\x00", "\x00\x00", false}, {api.TypeOPT, dotted("a."), dotted("A."), false}, {api.TypeOPT, "", "", true}, {api.TypeOPT, x(2000), x(2000), true}, {api.TypeOPT, x(2000), x(1999), false},
		// None of what is wrong is alike to anything.
		{api.TypeA, "abc", "abc", false}, {api.TypeA, "abcd", "abc", false}, {api.TypeNS, "", "", false}, {api.TypeNS, "\x01a", "\x01a", false}, {api.TypeNS, "\x01a\xc0\x00", "\x01a\xc0\x00", false}, {api.TypeTXT, "", "", false}, {api.TypeOPT, x(2001), x(2001), false}, {api.TypeSOA, "\x00\x00", "\x00\x00", false}, {api.TypeNS, dotted("a.") + "x", dotted("a.") + "x", false}, {api.TypeNS, dotted("a."), dotted("a.") + "x", false}, {api.TypeNS, tooLong, tooLong, false},
	} {
		a, b := of(c.kind, c.a), of(c.kind, c.b)
		b.TTL = 7
		if Alike(a, b) != c.want || Alike(b, a) != c.want {
			t.Errorf("Alike of type %d with %.40q and %.40q is %t", c.kind, c.a, c.b, !c.want)
		}
	}
}

func TestAlikeOfWhatIsNotData(t *testing.T) {
	for n, want := range map[string]bool{dotted("www.a."): true, dotted("WwW.A."): true, dotted("www.b."): false, dotted("a."): false, "\x00": false, "": false, "www.a.": false, dotted("www.a.") + "\x00": false} {
		for _, r := range []api.RR{of(api.TypeA, "abcd"), of(api.TypeNS, dotted("a.")), of(0, "")} {
			other := r
			other.Name = n
			if Alike(r, other) != want || Alike(other, r) != want {
				t.Errorf("Alike of %q and %q is %t", r.Name, n, !want)
			}
			if right := name.Check(n) == api.OK; Alike(other, other) != right {
				t.Errorf("Alike of %q and itself is %t", n, !right)
			}
		}
	}
	r := of(api.TypeNS, dotted("a."))
	class, kind, alias := r, r, r
	class.Class, kind.Type, alias.Type = 3, 0, api.TypeCNAME
	if Alike(r, class) || Alike(kind, r) || Alike(r, alias) || Alike(class, r) {
		t.Error("records of other types or classes are alike")
	}
	long := of(api.TypeA, "abcd")
	if long.Name = tooLong; Alike(long, long) {
		t.Error("records with a name that is too long are alike")
	}
	// Names of other sizes, whose bytes are the same all together.
	a, b := of(api.TypeSOA, dotted("a.")+"\x00"+numbers), of(api.TypeSOA, "\x00"+dotted("a.")+numbers)
	if Alike(a, b) {
		t.Error("an SOA is alike to one with its names the other way round")
	}
}

func TestAlikeOfAllPairs(t *testing.T) {
	all := valids()
	for i, a := range all {
		for j, b := range all {
			want := name.Same(a.Name, b.Name) && a.Type == b.Type && a.Class == b.Class && (a.Data == b.Data || slices.Contains(named, a.Type) && modelSame(a, b))
			if Alike(a, b) != want || i == j && !want {
				t.Errorf("Alike of %#v and %#v is %t", a, b, !want)
			}
		}
	}
}

// modelSame holds the data of two right records of a type with names against each other by the chapter's words.
func modelSame(a, b api.RR) bool {
	front := 0
	if a.Type == api.TypeMX {
		front = 2
	}
	restOfA, _ := behindName(a.Data[front:])
	restOfB, _ := behindName(b.Data[front:])
	same := a.Data[:front] == b.Data[:front] && name.Same(a.Data[front:len(a.Data)-len(restOfA)], b.Data[front:len(b.Data)-len(restOfB)])
	if a.Type != api.TypeSOA {
		return same
	}
	return same && name.Same(restOfA[:len(restOfA)-20], restOfB[:len(restOfB)-20]) && restOfA[len(restOfA)-20:] == restOfB[len(restOfB)-20:]
}

// P5.6

// random is a record that is right, of names that come again.
func random(r *rand.Rand) api.RR {
	pick := func() string {
		labels := []string{"a", "A", "b", "www", "\x00", "\xc0", x(20), x(63)}
		n := "\x00"
		for range r.Intn(1 + r.Intn(8)) {
			if l := labels[r.Intn(len(labels))]; 1+len(l)+len(n) <= 255 {
				n = string([]byte{byte(len(l))}) + l + n
			}
		}
		return n
	}
	bytes := func(n int) string {
		b := make([]byte, n)
		r.Read(b)
		return string(b)
	}
	out := api.RR{Name: pick(), Type: some[r.Intn(len(some))], Class: uint16(r.Intn(65536)), TTL: r.Uint32()}
	switch out.Type {
	case api.TypeA:
		out.Data = bytes(4)
	case api.TypeAAAA:
		out.Data = bytes(16)
	case api.TypeNS, api.TypeCNAME, api.TypePTR:
		out.Data = pick()
	case api.TypeMX:
		out.Data = bytes(2) + pick()
	case api.TypeSOA:
		out.Data = pick() + pick() + bytes(20)
	case api.TypeTXT:
		for range 1 + r.Intn(7) {
			size := r.Intn(256)
			out.Data += string([]byte{byte(size)}) + bytes(size)
		}
	default:
		out.Data = bytes(r.Intn(1 + r.Intn(2001)))
	}
	return out
}

func TestRecordsComeBack(t *testing.T) {
	r := rand.New(rand.NewSource(2))
	for i := range 600 {
		p := pack.New()
		if i%3 == 0 { // about where pointers end
			p.Raw(x(0x4000 - r.Intn(1000)))
		} else {
			p.Raw(strings.Repeat("\x01a\x00", r.Intn(40)))
		}
		var records []api.RR
		at := []int{p.Len()}
		for range 1 + r.Intn(30) {
			one := random(r)
			if err := Put(p, one); err != api.OK {
				t.Fatalf("Put of %#v is %d", one, err)
			}
			records, at = append(records, one), append(at, p.Len())
		}
		s := p.Bytes()
		again := pack.New()
		again.Raw(s[:at[0]])
		for j, want := range records {
			one, after, err := Get(s, at[j])
			if one != want || after != at[j+1] || err != api.OK {
				t.Fatalf("%#v at %d comes back as %#v, %d, %d", want, at[j], one, after, err)
			}
			if err := Put(again, one); err != api.OK {
				t.Fatalf("Put of what Get answers, %#v, is %d", one, err)
			}
		}
		if again.Bytes() != s {
			t.Fatal("Put of what Get answers appends other bytes")
		}
	}
}

func TestEachKindComesBackAnywhere(t *testing.T) {
	for _, ahead := range []int{0, 1, 12, 255, 256, 0x3f00, 0x3ff0, 0x3ff4, 0x3ffa, 0x3ffe, 0x3fff, 0x4000, 0x4001, 70000} {
		p := pack.New()
		p.Raw(x(ahead))
		at := ahead
		for _, r := range valids() {
			if err := Put(p, r); err != api.OK {
				t.Fatalf("Put of type %d with %.40q is %d", r.Type, r.Data, err)
			}
			got(t, p.Bytes(), at, r, p.Len(), api.OK)
			at = p.Len()
		}
	}
}

// P1, R3, R4

// within reports whether a text lies in the memory of another one.
func within(part, all string) bool {
	from, start := uintptr(unsafe.Pointer(unsafe.StringData(part))), uintptr(unsafe.Pointer(unsafe.StringData(all)))
	return part != "" && from >= start && from < start+uintptr(len(all))
}

// An answer does not keep the memory of all that it was a piece of.
func TestNoMemoryIsShared(t *testing.T) {
	for _, r := range valids() {
		r.Data = strings.Clone(r.Data)
		s := x(1000) + r.Name + word(int(r.Type)) + word(int(r.Class)) + long(int(r.TTL)) + word(len(r.Data)) + r.Data
		if one, _, err := Get(s, 1000); err != api.OK || within(one.Name, s) || within(one.Data, s) {
			t.Errorf("Get of type %d answers a piece of its argument", r.Type)
		}
		if n, _ := Target(r); within(n, r.Data) {
			t.Errorf("Target of type %d answers a piece of its argument", r.Type)
		}
		if soa, _ := Soa(r); within(soa.Source, r.Data) || within(soa.Mail, r.Data) {
			t.Errorf("Soa of %.40q answers a piece of its argument", r.Data)
		}
	}
}

func TestAnyArgumentsEnd(t *testing.T) {
	r := rand.New(rand.NewSource(3))
	for range 3000 {
		b := make([]byte, r.Intn(90))
		r.Read(b)
		for i := range b {
			b[i] &= []byte{0xff, 0x3f, 0x03}[r.Intn(3)]
		}
		s := string(b)
		for _, kind := range some {
			one := of(kind, s)
			checked(t, one)
			Target(one)
			Soa(one)
			Alike(one, one)
			p := pack.New()
			if err := Put(p, one); err != Check(one) || (err == api.OK) != (p.Len() > 0) {
				t.Fatalf("Put of type %d with %q is %d", kind, s, err)
			}
			Get(wire("\x00", kind, r.Intn(90), s), 0)
		}
		SoaData(api.Soa{Source: s, Mail: s})
		for _, at := range append(far(), r.Intn(90)-5) {
			Get(s, at)
		}
	}
}

func TestHugeArguments(t *testing.T) {
	huge := strings.Repeat("\x01a", 1<<22)
	for _, kind := range some {
		if err := Check(of(kind, huge)); err != api.ErrSize {
			t.Errorf("Check of huge data is %d", err)
		}
		r := of(kind, "")
		if r.Name = huge; Check(r) != api.ErrForm || Alike(r, r) {
			t.Error("a huge name is right")
		}
		if r.Name = huge + "\x00"; Check(r) != api.ErrSize || Alike(r, r) {
			t.Error("a huge name is right")
		}
	}
	fails(t, huge, 0, api.ErrSize)
}

func TestSameCallsAnswerTheSame(t *testing.T) {
	for range 3 {
		p := pack.New()
		Put(p, of(api.TypeNS, dotted("ns.a.")))
		s := p.Bytes()
		got(t, s, 0, of(api.TypeNS, dotted("ns.a.")), len(s), api.OK)
	}
}
