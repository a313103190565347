package message

import (
	"math"
	"math/rand"
	"slices"
	"strings"
	"testing"
	"unsafe"

	"fingerpost/api"
	"fingerpost/name"
	"fingerpost/pack"
	"fingerpost/record"
)

// raw puts a name together, whose labels may be wrong, and which may be too long.
func raw(labels ...string) string {
	n := ""
	for _, l := range labels {
		n += string([]byte{byte(len(l))}) + l
	}
	return n + "\x00"
}

// dotted is the name of a text.
func dotted(text string) string {
	n, _ := name.Parse(text)
	return n
}

// x is n bytes of a label, or of anything.
func x(n int) string {
	return strings.Repeat("x", n)
}

// word is a number in two bytes, and long one in four.
func word(n int) string {
	return string([]byte{byte(n >> 8), byte(n)})
}

func long(n int) string {
	return word(n>>16) + word(n)
}

// to is a pointer.
func to(at int) string {
	return word(0xc000 + at)
}

// head is a header.
func head(id, bits int, counts ...int) string {
	s := word(id) + word(bits)
	for _, n := range counts {
		s += word(n)
	}
	return s
}

// Names of the most bytes, and of one more.
var (
	most    = raw(x(63), x(63), x(63), x(61))
	tooLong = raw(x(63), x(63), x(63), x(62))
)

// asks is a question for a name's address.
func asks(n string) api.Question {
	return api.Question{Name: n, Type: api.TypeA, Class: api.ClassIN}
}

// other is a record of a type without rules, and with so many bytes of data; with the root's name it takes 11 bytes more.
func other(n string, size int) api.RR {
	return api.RR{Name: n, Type: 99, Class: api.ClassIN, TTL: 60, Data: x(size)}
}

// address is a record that is right.
func address(n string) api.RR {
	return api.RR{Name: n, Type: api.TypeA, Class: api.ClassIN, TTL: 60, Data: "\x01\x02\x03\x04"}
}

// kinds are the lists of records of a message.
func kinds(m *api.Message) []*[]api.RR {
	return []*[]api.RR{&m.Answers, &m.Authorities, &m.Extras}
}

// equal reports whether two messages are. A nil list is an empty one.
func equal(a, b api.Message) bool {
	same := a.ID == b.ID && a.Response == b.Response && a.Authoritative == b.Authoritative && a.Truncated == b.Truncated && a.Desired == b.Desired && a.Available == b.Available && a.Opcode == b.Opcode && a.Code == b.Code
	return same && slices.Equal(a.Questions, b.Questions) && slices.Equal(a.Answers, b.Answers) && slices.Equal(a.Authorities, b.Authorities) && slices.Equal(a.Extras, b.Extras)
}

// model writes messages by the chapters' words: known are the suffixes of names that stand in s, and where.
type model struct {
	s     string
	known map[string]int
}

// name appends a name with pointers.
func (w *model) name(n string) {
	for ; n[0] != 0; n = n[1+int(n[0]):] {
		if at, ok := w.known[n]; ok {
			w.s += to(at)
			return
		}
		w.known[n] = len(w.s)
		w.s += n[:1+int(n[0])]
	}
	w.s += "\x00"
}

// parts appends data of which so many bytes are ahead of so many names.
func (w *model) parts(data string, ahead, names int) {
	w.s += data[:ahead]
	data = data[ahead:]
	for range names {
		end := 0
		for data[end] != 0 {
			end += 1 + int(data[end])
		}
		w.name(data[:end+1])
		data = data[end+1:]
	}
	w.s += data
}

// record appends a record.
func (w *model) record(r api.RR) {
	w.name(r.Name)
	w.s += word(int(r.Type)) + word(int(r.Class)) + long(int(r.TTL))
	ahead := w.s
	w.s += "??"
	switch r.Type {
	case 2, 5, 12:
		w.parts(r.Data, 0, 1)
	case 15:
		w.parts(r.Data, 2, 1)
	case 6:
		w.parts(r.Data, 0, 2)
	default:
		w.parts(r.Data, 0, 0)
	}
	data := w.s[len(ahead)+2:]
	w.s = ahead + word(len(data)) + data
}

// modelBytes is a message that is right, however long it becomes.
func modelBytes(m api.Message) string {
	bits := m.Opcode*2048 + m.Code
	for bit, set := range map[int]bool{32768: m.Response, 1024: m.Authoritative, 512: m.Truncated, 256: m.Desired, 128: m.Available} {
		if set {
			bits += bit
		}
	}
	w := model{head(int(m.ID), bits, len(m.Questions), len(m.Answers), len(m.Authorities), len(m.Extras)), map[string]int{}}
	for _, q := range m.Questions {
		w.name(q.Name)
		w.s += word(int(q.Type)) + word(int(q.Class))
	}
	for _, r := range slices.Concat(m.Answers, m.Authorities, m.Extras) {
		w.record(r)
	}
	return w.s
}

// example has a bit of everything.
func example() api.Message {
	soa, _ := record.SoaData(api.Soa{Source: dotted("ns.a."), Mail: dotted("admin.a."), Serial: 0xc0000001, Minimum: 60})
	return api.Message{
		ID: 0xabcd, Response: true, Authoritative: true, Desired: true, Code: api.NXDomain,
		Questions:   []api.Question{asks(dotted("www.a.")), {Name: dotted("WWW.a."), Type: 0xfedc, Class: 0xba98}},
		Answers:     []api.RR{{Name: dotted("www.a."), Type: api.TypeCNAME, Class: api.ClassIN, TTL: 7, Data: dotted("x.www.a.")}, address(dotted("x.www.a."))},
		Authorities: []api.RR{{Name: dotted("a."), Type: api.TypeSOA, Class: api.ClassIN, TTL: 1 << 31, Data: soa}},
		Extras:      []api.RR{{Name: dotted("a."), Type: api.TypeMX, Class: 3, TTL: 0, Data: "\x00\x0a" + dotted("m.b.")}, {Name: "\x00", Type: api.TypeTXT, Data: "\x00\x02ab"}, other(dotted("b."), 0)},
	}
}

// written tells of Bytes that differ from the model, of a message whose elements are right.
func written(t *testing.T, m api.Message) {
	t.Helper()
	want, wrong := modelBytes(m), api.OK
	if len(want) > 4096 {
		want, wrong = "", api.ErrSize
	}
	if s, err := Bytes(m); s != want || err != wrong {
		t.Fatalf("Bytes of %.300v are %.80q (%d of them), %d, want %.80q (%d), %d", m, s, len(s), err, want, len(want), wrong)
	}
}

// refuses tells of a message that Bytes or Fit, with any limit, do not answer with an error.
func refuses(t *testing.T, what string, m api.Message, want api.Errno) {
	t.Helper()
	if s, err := Bytes(m); s != "" || err != want {
		t.Errorf("Bytes of %s are %.20q, %d, want %d", what, s, err, want)
	}
	for _, limit := range []int{math.MinInt, -1, 0, 11, 12, 100, 512, 4095, 4096, 4097, math.MaxInt} {
		if s, err := Fit(m, limit); s != "" || err != want {
			t.Errorf("Fit of %s into %d is %.20q, %d, want %d", what, limit, s, err, want)
		}
	}
}

// P6.1

func TestBytesOfTheExample(t *testing.T) {
	if s, err := Bytes(Query(7, asks(dotted("a.")))); s != "\x00\x07\x00\x00\x00\x01\x00\x00\x00\x00\x00\x00\x01\x61\x00\x00\x01\x00\x01" || err != api.OK {
		t.Errorf("Bytes of a query are %q, %d", s, err)
	}
	if s, err := Bytes(api.Message{}); s != strings.Repeat("\x00", 12) || err != api.OK {
		t.Errorf("Bytes of an empty message are %q, %d", s, err)
	}
	want := "\xab\xcd\x85\x03" + "\x00\x02\x00\x02\x00\x01\x00\x03" +
		dotted("www.a.") + "\x00\x01\x00\x01" + "\x03WWW" + to(16) + "\xfe\xdc\xba\x98" +
		to(12) + "\x00\x05\x00\x01\x00\x00\x00\x07\x00\x04" + "\x01x" + to(12) + to(45) + "\x00\x01\x00\x01\x00\x00\x00\x3c\x00\x04\x01\x02\x03\x04" +
		to(16) + "\x00\x06\x00\x01\x80\x00\x00\x00\x00\x21" + "\x02ns" + to(16) + "\x05admin" + to(16) + "\xc0\x00\x00\x01" + strings.Repeat("\x00", 15) + "\x3c" +
		to(16) + "\x00\x0f\x00\x03\x00\x00\x00\x00\x00\x07" + "\x00\x0a" + "\x01m\x01b\x00" +
		"\x00" + "\x00\x10\x00\x00\x00\x00\x00\x00\x00\x04" + "\x00\x02ab" +
		to(126) + "\x00\x63\x00\x01\x00\x00\x00\x3c\x00\x00"
	if s, err := Bytes(example()); s != want || err != api.OK {
		t.Errorf("Bytes are %q, %d, want %q", s, err, want)
	}
	written(t, example())
}

func TestBytesOfEachField(t *testing.T) {
	for want, m := range map[string]api.Message{
		"\x00\x00\x80\x00": {Response: true}, "\x00\x00\x08\x00": {Opcode: 1}, "\x00\x00\x10\x00": {Opcode: 2}, "\x00\x00\x20\x00": {Opcode: 4}, "\x00\x00\x40\x00": {Opcode: 8}, "\x00\x00\x78\x00": {Opcode: 15},
		"\x00\x00\x04\x00": {Authoritative: true}, "\x00\x00\x02\x00": {Truncated: true}, "\x00\x00\x01\x00": {Desired: true}, "\x00\x00\x00\x80": {Available: true},
		"\x00\x00\x00\x01": {Code: 1}, "\x00\x00\x00\x02": {Code: 2}, "\x00\x00\x00\x04": {Code: 4}, "\x00\x00\x00\x08": {Code: 8}, "\x00\x00\x00\x0f": {Code: 15}, "\x12\x34\x00\x00": {ID: 0x1234},
		"\xff\xff\xff\x8f": {ID: 65535, Response: true, Opcode: 15, Authoritative: true, Truncated: true, Desired: true, Available: true, Code: 15},
	} {
		if s, err := Bytes(m); s != want+strings.Repeat("\x00", 8) || err != api.OK {
			t.Errorf("Bytes of %v are %q, %d, want %q", m, s, err, want)
		}
	}
}

func TestBytesOfWrongNumbers(t *testing.T) {
	for _, n := range []int{math.MinInt, -1 << 32, -16, -1, 16, 17, 31, 256, 65536, 1 << 32, 1<<32 + 1, math.MaxInt} {
		m := example()
		m.Opcode = n
		refuses(t, "a wrong Opcode", m, api.ErrArg)
		m = example()
		m.Code = n
		refuses(t, "a wrong Code", m, api.ErrArg)
	}
	for n := range 16 {
		m := example()
		m.Opcode, m.Code = n, 15-n
		written(t, m)
	}
}

func TestBytesOfManyElements(t *testing.T) {
	for size, want := range map[int]api.Errno{65535: api.ErrSize, 65536: api.ErrArg, 65537: api.ErrArg, 1 << 17: api.ErrArg} {
		m := api.Message{Questions: make([]api.Question, size)}
		for i := range m.Questions {
			m.Questions[i].Name = "\x00"
		}
		refuses(t, "many questions", m, want)
		for i := range 3 {
			m := api.Message{}
			list := make([]api.RR, size)
			for j := range list {
				list[j].Name = "\x00"
			}
			*kinds(&m)[i] = list
			s, err := Bytes(m)
			if s != "" || err != want {
				t.Errorf("Bytes of %d records are %.20q, %d, want %d", size, s, err, want)
			}
		}
	}
	// Each kind is counted on its own.
	m := api.Message{Answers: make([]api.RR, 40000), Authorities: make([]api.RR, 40000)}
	refuses(t, "many records of two kinds", m, api.ErrForm)
}

func TestBytesOfSizes(t *testing.T) {
	for size := 4090; size < 4100; size++ {
		rest := size - 12 - 5 - 2*(11+1300) - 11
		m := api.Message{Questions: []api.Question{asks("\x00")}, Answers: []api.RR{other("\x00", 1300)}, Authorities: []api.RR{other("\x00", 1300)}, Extras: []api.RR{other("\x00", rest)}}
		if have := len(modelBytes(m)); have != size {
			t.Fatalf("a message has %d bytes, want %d", have, size)
		}
		written(t, m)
		m.Questions = nil
		for n := 5; n < size-12; n += 5 {
			if n+5+1315 > size-12 {
				break
			}
			m.Questions = append(m.Questions, asks("\x00"))
		}
		left := size - 12 - 5*len(m.Questions)
		m.Answers, m.Authorities, m.Extras = []api.RR{other("\x00", left-11)}, nil, nil
		if have := len(modelBytes(m)); have != size {
			t.Fatalf("a message has %d bytes, want %d", have, size)
		}
		written(t, m)
	}
	// Questions alone, and what pointers spare.
	for n := 675; n < 690; n++ {
		m := api.Message{}
		for range n {
			m.Questions = append(m.Questions, asks(dotted("a.")))
		}
		written(t, m)
		for i := range m.Questions {
			m.Questions[i].Name = "\x00"
		}
		written(t, m)
	}
	for range 2 {
		m := api.Message{Questions: make([]api.Question, 817)}
		for i := range m.Questions {
			m.Questions[i].Name = "\x00"
		}
		written(t, m)
		m.Questions[816].Name = most
		written(t, m)
	}
}

// wrongs are elements with an error.
func wrongs() map[string]api.Errno {
	return map[string]api.Errno{"": api.ErrForm, "a": api.ErrForm, "www.a.": api.ErrForm, "\x01a": api.ErrForm, to(12): api.ErrForm, "\x01a\x00\x00": api.ErrForm, tooLong: api.ErrSize}
}

// An invalid element is told of wherever it stands, the first one of several, and ahead of the size.
func TestBytesOfWrongElements(t *testing.T) {
	for n, want := range wrongs() {
		for _, huge := range []bool{false, true} {
			for i := range 4 {
				m := example()
				if huge {
					for _, list := range kinds(&m) {
						*list = append(*list, other("\x00", 2000), other("\x00", 2000), other("\x00", 2000))
					}
				}
				if i == 0 {
					m.Questions = append(m.Questions, asks(n))
				} else {
					list := kinds(&m)[i-1]
					*list = append(*list, address(n))
				}
				refuses(t, "a wrong name", m, want)
			}
		}
	}
	for i := range 3 {
		for _, c := range []struct {
			r    api.RR
			want api.Errno
		}{
			{other("\x00", 2001), api.ErrSize}, {api.RR{Name: "\x00", Type: api.TypeA, Data: "abc"}, api.ErrForm}, {api.RR{Name: "\x00", Type: api.TypeNS, Data: to(12)}, api.ErrForm}, {api.RR{}, api.ErrForm},
		} {
			m := example()
			list := kinds(&m)[i]
			*list = slices.Insert(*list, i%2, c.r)
			refuses(t, "a wrong record", m, c.want)
		}
	}
}

func TestBytesTellTheFirstError(t *testing.T) {
	places := func(m *api.Message, i int, n string) {
		if i == 0 {
			m.Questions = append(m.Questions, asks(n))
		} else {
			*kinds(m)[(i-1)/2] = append(*kinds(m)[(i-1)/2], address(n))
		}
	}
	for i := range 7 {
		for j := i + 1; j < 7; j++ {
			var m api.Message
			places(&m, i, tooLong)
			places(&m, j, "a")
			refuses(t, "two wrong names", m, api.ErrSize)
			m = api.Message{}
			places(&m, i, "")
			places(&m, j, tooLong)
			refuses(t, "two wrong names", m, api.ErrForm)
			m.Opcode = 16
			refuses(t, "two wrong names and a wrong Opcode", m, api.ErrArg)
			m.Opcode, m.Code = 0, -1
			refuses(t, "two wrong names and a wrong Code", m, api.ErrArg)
			m.Code, m.Extras = 0, make([]api.RR, 65536)
			refuses(t, "two wrong names and many records", m, api.ErrArg)
		}
	}
	// A right name and wrong data, and wrong data behind right ones that are too many bytes.
	m := api.Message{Answers: []api.RR{other("\x00", 2000), other("\x00", 2000), other("\x00", 2000)}, Extras: []api.RR{{Name: "\x00", Type: api.TypeTXT}}}
	refuses(t, "wrong data behind many bytes", m, api.ErrForm)
}

// P6.2

// answers tells of a Read that differs from what is wanted.
func answers(t *testing.T, s string, want api.Message, wrong api.Errno) {
	t.Helper()
	if m, err := Read(s); !equal(m, want) || err != wrong {
		t.Errorf("Read of %.80q (%d bytes) is %.300v, %d, want %.300v, %d", s, len(s), m, err, want, wrong)
	}
}

// fails is answers of an error.
func fails(t *testing.T, s string, wrong api.Errno) {
	t.Helper()
	answers(t, s, api.Message{}, wrong)
}

func TestReadOfTheExamples(t *testing.T) {
	answers(t, strings.Repeat("\x00", 12), api.Message{}, api.OK)
	fails(t, strings.Repeat("\x00", 11), api.ErrForm)
	fails(t, strings.Repeat("\x00", 13), api.ErrForm)
	fails(t, "", api.ErrForm)
	answers(t, "\x00\x07\x00\x00\x00\x01\x00\x00\x00\x00\x00\x00\x01\x61\x00\x00\x01\x00\x01", Query(7, asks(dotted("a."))), api.OK)
	answers(t, modelBytes(example()), example(), api.OK)
}

// Elements are read one after the other, and each of its kind.
func TestReadOfEachKind(t *testing.T) {
	r := "\x01a\x00" + "\x00\x01\x00\x01\x00\x00\x00\x3c\x00\x04\x01\x02\x03\x04"
	a := []api.RR{address(dotted("a."))}
	answers(t, head(1, 0, 0, 1, 0, 0)+r, api.Message{ID: 1, Answers: a}, api.OK)
	answers(t, head(1, 0, 0, 0, 1, 0)+r, api.Message{ID: 1, Authorities: a}, api.OK)
	answers(t, head(1, 0, 0, 0, 0, 1)+r, api.Message{ID: 1, Extras: a}, api.OK)
	answers(t, head(1, 0, 1, 1, 1, 1)+"\x00\x00\x02\x00\x03"+r+"\x01b"+r+"\x01c"+r, api.Message{ID: 1, Questions: []api.Question{{Name: "\x00", Type: 2, Class: 3}},
		Answers: a, Authorities: []api.RR{address(dotted("b.a."))}, Extras: []api.RR{address(dotted("c.a."))}}, api.OK)
	// Names may stand anywhere ahead, in the header too.
	answers(t, "\x01a\x00\x00\x00\x01\x00\x00\x00\x00\x00\x00"+"\x01b"+to(0)+"\x00\x01\x00\x01", api.Message{ID: 0x0161, Questions: []api.Question{asks(dotted("b.a."))}}, api.OK)
	fails(t, head(1, 0, 0, 1, 0, 0)+r+r, api.ErrForm)
	fails(t, head(1, 0, 0, 1, 0, 0)+r+"\x00", api.ErrForm)
	fails(t, head(1, 0, 0, 2, 0, 0)+r, api.ErrForm)
	fails(t, head(1, 0, 1, 0, 0, 0)+r, api.ErrForm)
	fails(t, head(1, 0, 65535, 65535, 65535, 65535)+r, api.ErrForm)
	for i := range 4 {
		counts := make([]int, 4)
		counts[i] = 65535
		fails(t, head(1, 0, counts...), api.ErrForm)
		counts[i] = 256
		fails(t, head(1, 0, counts...)+"\x00\x00\x01\x00\x01", api.ErrForm)
	}
}

func TestReadOfWhatIsCutOff(t *testing.T) {
	s := modelBytes(example())
	for size := range len(s) {
		fails(t, s[:size], api.ErrForm)
	}
	for _, more := range []string{"\x00", "a", s, x(3000)} {
		fails(t, s+more, api.ErrForm)
	}
}

func TestReadOfSizes(t *testing.T) {
	m := api.Message{Answers: []api.RR{other("\x00", 2000), other("\x00", 2000), other("\x00", 51)}}
	answers(t, modelBytes(m), m, api.OK)
	m.Answers[2].Data += "x"
	if s := modelBytes(m); len(s) != 4097 {
		t.Fatalf("a message has %d bytes", len(s))
	}
	fails(t, modelBytes(m), api.ErrSize)
	for _, c := range []struct {
		size  int
		wrong api.Errno
	}{{4095, api.ErrForm}, {4096, api.ErrForm}, {4097, api.ErrSize}, {5000, api.ErrSize}, {1 << 24, api.ErrSize}} {
		fails(t, strings.Repeat("\x00", c.size), c.wrong) // bytes behind the last record
		fails(t, strings.Repeat("\xff", c.size), c.wrong)
		fails(t, strings.Repeat("\x01", c.size), api.ErrSize) // a name that is too long
	}
}

// The first error counts: that of what stands first.
func TestReadTellsTheFirstError(t *testing.T) {
	good := "\x00" + "\x00\x01\x00\x01\x00\x00\x00\x3c\x00\x04abcd"
	short := "\x00" + "\x00\x01\x00\x01\x00\x00\x00\x3c\x00\x03abc"
	large := tooLong + "\x00\x01\x00\x01\x00\x00\x00\x3c\x00\x04abcd"
	data := "\x00" + "\x00\x63\x00\x01\x00\x00\x00\x3c\x07\xd1" + x(2001)
	for i := range 3 {
		counts := []int{0, 0, 0, 0}
		counts[1+i] = 3
		h := head(7, 0x8000, counts...)
		fails(t, h+short+large+good, api.ErrForm)
		fails(t, h+large+short+good, api.ErrSize)
		fails(t, h+data+short+good, api.ErrSize)
		fails(t, h+good+data+short, api.ErrSize)
		fails(t, h+good+short+data, api.ErrForm)
		fails(t, h+good+good+large+"x", api.ErrSize)
		fails(t, h+good+good+data[:100], api.ErrForm)
		fails(t, h+good+large, api.ErrSize)
		fails(t, h+good+good, api.ErrForm)
	}
	fails(t, head(7, 0, 2, 1, 1, 1)+tooLong+"\x00\x01\x00\x01"+short, api.ErrSize)
	fails(t, head(7, 0, 2, 1, 1, 1)+to(100), api.ErrForm)
	fails(t, head(7, 0, 1, 1, 0, 0)+"\x00\x00\x01\x00\x01"+large, api.ErrSize)
	fails(t, head(7, 0, 1, 0, 1, 0)+"\x00\x00\x01\x00"+large, api.ErrForm)
	fails(t, head(7, 0, 1, 0, 0, 0)+tooLong, api.ErrSize)
	// A question that is cut off, in a message whose header begins with labels of a name that is too long.
	for _, part := range []string{"", "\x00", "\x00\x01", "\x00\x01\x00"} {
		fails(t, head(0x0b00, 0x0900, 1, 1, 0, 0)+most+part, api.ErrForm)
	}
	fails(t, head(7, 0, 0, 1, 1, 0)+short+large, api.ErrForm)
	fails(t, head(7, 0, 0, 1, 1, 0)+large+short, api.ErrSize)
	fails(t, head(7, 0, 0, 1, 0, 1)+good+large, api.ErrSize)
	fails(t, head(7, 0, 0, 0, 1, 1)+short+large, api.ErrForm)
}

func TestHead(t *testing.T) {
	want := api.Message{ID: 0xabcd, Response: true, Authoritative: true, Desired: true, Code: 3}
	s := modelBytes(example())
	for _, behind := range []string{"", "\x00", s[12:], s[12:50], x(5000), "\xc0\xff"} {
		if m, err := Head(s[:12] + behind); !equal(m, want) || err != api.OK {
			t.Errorf("Head is %v, %d", m, err)
		}
	}
	for size := range 12 {
		for _, part := range []string{s[:size], strings.Repeat("\x00", size), strings.Repeat("\xff", size)} {
			if m, err := Head(part); !equal(m, api.Message{}) || err != api.ErrForm {
				t.Errorf("Head of %d bytes is %v, %d", size, m, err)
			}
			fails(t, part, api.ErrForm)
		}
	}
	if m, err := Head(strings.Repeat("\xff", 12)); !equal(m, api.Message{ID: 65535, Response: true, Opcode: 15, Authoritative: true, Truncated: true, Desired: true, Available: true, Code: 15}) || err != api.OK {
		t.Errorf("Head of set bits is %v, %d", m, err)
	}
}

// Each word of bits is read as the chapter says, and comes back with its unused bits 0.
func TestEachWordOfBits(t *testing.T) {
	for w := range 65536 {
		s := head(w^0x5555, w, 0, 0, 0, 0)
		want := api.Message{ID: uint16(w ^ 0x5555), Response: w/32768%2 == 1, Opcode: w / 2048 % 16, Authoritative: w/1024%2 == 1, Truncated: w/512%2 == 1, Desired: w/256%2 == 1, Available: w/128%2 == 1, Code: w % 16}
		m, err := Read(s)
		h, wrong := Head(s)
		if !equal(m, want) || err != api.OK || !equal(h, want) || wrong != api.OK {
			t.Fatalf("Read of the bits %x is %v, %d, and Head %v, %d", w, m, err, h, wrong)
		}
		if back, err := Bytes(m); back != head(w^0x5555, w&^0x70, 0, 0, 0, 0) || err != api.OK {
			t.Fatalf("the bits %x come back as %q, %d", w, back, err)
		}
	}
}

// modelRead reads by the chapter's words.
func modelRead(s string) (api.Message, api.Errno) {
	if len(s) > 4096 {
		return api.Message{}, api.ErrSize
	}
	if len(s) < 12 {
		return api.Message{}, api.ErrForm
	}
	m, _ := Head(s)
	at := 12
	for range int(s[4])*256 + int(s[5]) {
		n, after, err := pack.Name(s, at)
		if err != api.OK {
			return api.Message{}, err
		}
		if after+4 > len(s) {
			return api.Message{}, api.ErrForm
		}
		m.Questions = append(m.Questions, api.Question{Name: n, Type: uint16(s[after])*256 + uint16(s[after+1]), Class: uint16(s[after+2])*256 + uint16(s[after+3])})
		at = after + 4
	}
	for i, list := range kinds(&m) {
		for range int(s[6+2*i])*256 + int(s[7+2*i]) {
			r, after, err := record.Get(s, at)
			if err != api.OK {
				return api.Message{}, err
			}
			*list = append(*list, r)
			at = after
		}
	}
	if at < len(s) {
		return api.Message{}, api.ErrForm
	}
	return m, api.OK
}

// P6.3

// modelFit is what is sent of a message whose elements are right.
func modelFit(m api.Message, limit int) (string, api.Errno) {
	without := []api.Message{m, m, m, m}
	for i := range without {
		if i > 0 {
			without[i].Extras = nil
		}
		if i > 1 {
			without[i].Authorities = nil
		}
		if i > 2 {
			without[i].Answers, without[i].Truncated = nil, true
		}
		if s := modelBytes(without[i]); len(s) <= limit && len(s) <= 4096 {
			return s, api.OK
		}
	}
	return "", api.ErrSize
}

// fitted tells of a Fit that differs from the model.
func fitted(t *testing.T, m api.Message, limit int) {
	t.Helper()
	want, wrong := modelFit(m, limit)
	if s, err := Fit(m, limit); s != want || err != wrong {
		t.Fatalf("Fit of %.300v into %d is %.80q (%d bytes), %d, want %.80q (%d), %d", m, limit, s, len(s), err, want, len(want), wrong)
	}
}

func TestFitOfTheExample(t *testing.T) {
	m := Reply(Query(7, asks(dotted("a."))), api.NoError)
	want, _ := Bytes(m)
	for range 40 {
		m.Answers = append(m.Answers, address(dotted("a.")))
	}
	for _, limit := range []int{19, 512, 512 + 100, 12 + 7 + 40*16 - 1} {
		s, err := Fit(m, limit)
		if s != want[:2]+"\x82\x80"+want[4:] || err != api.OK {
			t.Errorf("Fit of many answers into %d is %q, %d", limit, s, err)
		}
		if back, err := Read(s); err != api.OK || !back.Truncated || len(back.Questions) != 1 || back.Answers != nil {
			t.Errorf("what Fit answers is %v, %d", back, err)
		}
	}
	if s, err := Fit(m, 12+7+40*16); s != modelBytes(m) || err != api.OK {
		t.Errorf("Fit of what fits is %q, %d", s, err)
	}
	if s, err := Fit(m, 18); s != "" || err != api.ErrSize {
		t.Errorf("Fit of a question that does not is %q, %d", s, err)
	}
}

func TestFitIntoEachLimit(t *testing.T) {
	for lists := range 16 {
		m := example()
		if lists&8 != 0 {
			m.Questions = nil
		}
		for i, list := range kinds(&m) {
			if lists>>i&1 != 0 {
				*list = nil
			}
		}
		m.Truncated = lists%3 == 0
		for limit := -2; limit < len(modelBytes(m))+3; limit++ {
			fitted(t, m, limit)
		}
		for _, limit := range []int{math.MinInt, -1 << 40, 4095, 4096, 4097, 1 << 40, math.MaxInt} {
			fitted(t, m, limit)
		}
	}
	for _, limit := range []int{-1, 0, 1, 11, 12, 13} {
		fitted(t, api.Message{}, limit)
		fitted(t, api.Message{Truncated: true, Extras: example().Extras}, limit)
	}
}

// More than 4096 bytes never fit, whatever the limit is.
func TestFitOfSizes(t *testing.T) {
	for _, sizes := range [][3]int{{0, 0, 2000}, {0, 1300, 1300}, {1300, 1300, 1300}, {2000, 1000, 10}, {2000, 2000, 0}, {2000, 2000, 100}, {1, 2000, 2000}, {2000, 100, 1900}, {2000, 100, 2000}} {
		for more := range 130 {
			m := Reply(Query(9, asks(dotted("www.a."))), api.Refused)
			for i, list := range kinds(&m) {
				*list = []api.RR{other(dotted("www.a."), sizes[i])}
			}
			m.Answers = append(m.Answers, other("\x00", more))
			for _, limit := range []int{4000, 4095, 4096, 4097, 10000, math.MaxInt, 512, 2100} {
				fitted(t, m, limit)
			}
		}
	}
	m := api.Message{}
	for range 815 {
		m.Questions = append(m.Questions, asks("\x00"))
	}
	for range 4 {
		m.Questions = append(m.Questions, asks("\x00"))
		for _, limit := range []int{4000, 4091, 4092, 4096, 4097, math.MaxInt} {
			fitted(t, m, limit)
			withAnswers := m
			withAnswers.Answers = []api.RR{address("\x00")}
			fitted(t, withAnswers, limit)
		}
	}
}

// What is dropped counts as much as what is not: TestBytesOfWrongElements and others hold Fit to the same errors.
func TestFitDoesNotDropWhatIsWrong(t *testing.T) {
	m := example()
	m.Extras = []api.RR{other("\x00", 2001)}
	refuses(t, "an extra whose data are too long", m, api.ErrSize)
	m.Extras = []api.RR{address(tooLong)}
	refuses(t, "an extra whose name is too long", m, api.ErrSize)
	m.Extras, m.Answers = nil, append(m.Answers, api.RR{Name: "\x00", Type: api.TypeA})
	refuses(t, "an answer whose data are wrong", m, api.ErrForm)
	m.Answers, m.Extras = nil, make([]api.RR, 65536)
	for i := range m.Extras {
		m.Extras[i].Name = "\x00"
	}
	refuses(t, "more extras than a header counts", m, api.ErrArg)
}

// P6.4

func TestQuery(t *testing.T) {
	for _, q := range []api.Question{{}, asks(dotted("www.A.")), {Name: most, Type: 65535, Class: 65535}, {Name: "not a name", Type: 1}} {
		for _, id := range []uint16{0, 1, 7, 256, 65535} {
			if m := Query(id, q); !equal(m, api.Message{ID: id, Questions: []api.Question{q}}) {
				t.Errorf("Query is %v", m)
			}
		}
	}
}

func TestReply(t *testing.T) {
	q := []api.Question{asks(dotted("a.")), {Name: "not a name", Class: 9}}
	for _, code := range []int{0, 1, 2, 5, 15, 16, -1, 300, math.MinInt, math.MaxInt} {
		for _, desired := range []bool{false, true} {
			for _, opcode := range []int{0, 1, 15, 16, -1, math.MaxInt} {
				m := example()
				m.Desired, m.Opcode, m.Truncated, m.Code, m.Questions = desired, opcode, true, 9, q
				if r := Reply(m, code); !equal(r, api.Message{ID: 0xabcd, Response: true, Opcode: opcode, Desired: desired, Available: true, Code: code, Questions: q}) {
					t.Errorf("Reply is %v", r)
				}
			}
		}
	}
	if r := Reply(api.Message{}, 0); !equal(r, api.Message{Response: true, Available: true}) {
		t.Errorf("Reply to an empty message is %v", r)
	}
}

func TestSameQuestion(t *testing.T) {
	for _, c := range []struct {
		a, b api.Question
		want bool
	}{
		{asks(dotted("a.")), asks(dotted("a.")), true}, {asks(dotted("www.a.")), asks(dotted("WWW.A.")), true}, {asks("\x00"), asks("\x00"), true}, {asks(most), asks(strings.ToUpper(most)), true},
		{asks(dotted("a.")), asks(dotted("b.")), false}, {asks(dotted("a.")), asks("\x00"), false}, {asks(dotted("a.b.")), asks(dotted("b.")), false}, {asks(raw("[")), asks(raw("{")), false},
		{asks(dotted("a.")), api.Question{Name: dotted("a."), Type: 2, Class: 1}, false}, {asks(dotted("a.")), api.Question{Name: dotted("a."), Type: 1, Class: 3}, false}, {asks(dotted("a.")), api.Question{Name: dotted("a."), Type: 257, Class: 1}, false}, {asks(dotted("a.")), api.Question{Name: dotted("a."), Type: 1, Class: 257}, false},
		{api.Question{Name: dotted("a."), Type: 2, Class: 3}, api.Question{Name: dotted("A."), Type: 2, Class: 3}, true}, {api.Question{Name: dotted("a."), Type: 2, Class: 3}, api.Question{Name: dotted("a."), Type: 3, Class: 2}, false},
		// Two that are not names are not the same name.
		{asks(""), asks(""), false}, {asks("a."), asks("a."), false}, {asks(tooLong), asks(tooLong), false}, {asks("\x01a"), asks("\x01a"), false}, {asks(dotted("a.")), asks("\x01a"), false}, {api.Question{}, api.Question{}, false},
	} {
		if SameQuestion(c.a, c.b) != c.want || SameQuestion(c.b, c.a) != c.want {
			t.Errorf("SameQuestion of %v and %v is %t", c.a, c.b, !c.want)
		}
	}
}

func TestMatches(t *testing.T) {
	ask := Query(7, asks(dotted("www.a.")))
	ask.Opcode = 3
	same := Reply(ask, api.NXDomain)
	same.Authoritative, same.Truncated, same.Available, same.Desired, same.Answers = true, true, false, true, example().Answers
	same.Questions[0].Name = dotted("WWW.a.")
	if !Matches(ask, same) {
		t.Error("a response does not match")
	}
	for what, change := range map[string]func(ask, m *api.Message){
		"a query": func(_, m *api.Message) { m.Response = false }, "another ID": func(_, m *api.Message) { m.ID++ }, "an ID asked for": func(ask, _ *api.Message) { ask.ID = 0 }, "another Opcode": func(_, m *api.Message) { m.Opcode = 0 }, "another Opcode asked for": func(ask, _ *api.Message) { ask.Opcode = -1 },
		"no question": func(_, m *api.Message) { m.Questions = nil }, "no question asked": func(ask, _ *api.Message) { ask.Questions = nil }, "none at all": func(ask, m *api.Message) { ask.Questions, m.Questions = nil, []api.Question{} },
		"two questions": func(_, m *api.Message) { m.Questions = append(m.Questions, m.Questions[0]) },
		"two asked":     func(ask, _ *api.Message) { ask.Questions = append(ask.Questions, ask.Questions[0]) },
		"two of both": func(ask, m *api.Message) {
			ask.Questions = append(ask.Questions, ask.Questions[0])
			m.Questions = ask.Questions
		},
		"another name":     func(_, m *api.Message) { m.Questions = []api.Question{asks(dotted("a."))} },
		"another type":     func(_, m *api.Message) { m.Questions[0].Type = 2 },
		"another class":    func(_, m *api.Message) { m.Questions[0].Class = 2 },
		"no name":          func(ask, m *api.Message) { ask.Questions[0].Name, m.Questions[0].Name = "a", "a" },
		"the ways swapped": func(ask, m *api.Message) { *ask, *m = *m, *ask },
	} {
		one, two := ask, same
		one.Questions, two.Questions = slices.Clone(ask.Questions), slices.Clone(same.Questions)
		change(&one, &two)
		if Matches(one, two) {
			t.Errorf("a response with %s matches", what)
		}
	}
	// Nothing is asked of ask but these.
	again := ask
	again.Response, again.Code, again.Desired, again.Answers = true, 77, true, make([]api.RR, 3)
	if !Matches(again, same) {
		t.Error("a response does not match a response")
	}
	if Matches(api.Message{}, api.Message{Response: true}) {
		t.Error("empty messages match")
	}
}

// P6.5

// random is a message whose elements are right, of names that come again.
func random(r *rand.Rand) api.Message {
	pick := func() string {
		labels := []string{"a", "A", "b", "www", "\x00", "\xc0", x(20), x(63)}
		n := "\x00"
		for range r.Intn(1 + r.Intn(6)) {
			if l := labels[r.Intn(len(labels))]; 1+len(l)+len(n) <= 255 {
				n = string([]byte{byte(len(l))}) + l + n
			}
		}
		return n
	}
	bytes := func(n int) string {
		b := make([]byte, n)
		r.Read(b)
		return string(b)
	}
	m := api.Message{ID: uint16(r.Uint32()), Response: r.Intn(2) == 0, Authoritative: r.Intn(2) == 0, Truncated: r.Intn(2) == 0, Desired: r.Intn(2) == 0, Available: r.Intn(2) == 0, Opcode: r.Intn(16), Code: r.Intn(16)}
	for range r.Intn(3) {
		m.Questions = append(m.Questions, api.Question{Name: pick(), Type: uint16(r.Uint32()), Class: uint16(r.Uint32())})
	}
	for _, list := range kinds(&m) {
		for range r.Intn(1 + r.Intn(20)) {
			out := api.RR{Name: pick(), Class: uint16(r.Uint32()), TTL: r.Uint32()}
			switch r.Intn(6) {
			case 0:
				out.Type, out.Data = api.TypeA, bytes(4)
			case 1:
				out.Type, out.Data = []uint16{api.TypeNS, api.TypeCNAME, api.TypePTR}[r.Intn(3)], pick()
			case 2:
				out.Type, out.Data = api.TypeMX, bytes(2)+pick()
			case 3:
				out.Type, out.Data = api.TypeSOA, pick()+pick()+bytes(20)
			case 4:
				out.Type, out.Data = api.TypeAAAA, bytes(16)
			default:
				out.Type, out.Data = 99, bytes(r.Intn(1+r.Intn(1+r.Intn(2000))))
			}
			*list = append(*list, out)
		}
	}
	return m
}

func TestMessagesComeBack(t *testing.T) {
	r := rand.New(rand.NewSource(1))
	long := 0
	for range 1500 {
		m := random(r)
		written(t, m)
		for range 5 {
			fitted(t, m, r.Intn(5000))
		}
		s, err := Bytes(m)
		if err != api.OK {
			long++
			continue
		}
		back, err := Read(s)
		if !equal(back, m) || err != api.OK {
			t.Fatalf("%v comes back as %v, %d", m, back, err)
		}
		if again, err := Bytes(back); again != s || err != api.OK {
			t.Fatalf("Bytes of what Read answers are %q, %d, want %q", again, err, s)
		}
	}
	if long == 0 || long > 700 {
		t.Errorf("%d messages are too long", long)
	}
}

// likeModel tells of a Read that differs from the model, and of what it answers if that does not come back.
func likeModel(t *testing.T, s string) bool {
	t.Helper()
	want, wrong := modelRead(s)
	m, err := Read(s)
	if !equal(m, want) || err != wrong {
		t.Fatalf("Read of %q is %v, %d, want %v, %d", s, m, err, want, wrong)
	}
	if err != api.OK {
		return false
	}
	again, err := Bytes(m)
	if err != api.OK {
		t.Fatalf("Bytes of what Read answers for %q are %d", s, err)
	}
	if back, err := Read(again); !equal(back, m) || err != api.OK {
		t.Fatalf("what Read answers for %q comes back as %v, %d", s, back, err)
	}
	return true
}

func TestReadOfChangedMessages(t *testing.T) {
	r := rand.New(rand.NewSource(2))
	right := 0
	for range 4000 {
		m := random(r)
		s, err := Fit(m, 900)
		if err != api.OK {
			continue
		}
		for range 3 {
			b := []byte(s)
			for range 1 + r.Intn(3) {
				at := r.Intn(len(b))
				if r.Intn(4) == 0 {
					at = r.Intn(12)
				}
				b[at] = []byte{0, 1, 2, 12, 0xc0, byte(r.Intn(256)), b[at] + 1, b[at] - 1}[r.Intn(8)]
			}
			if r.Intn(8) == 0 {
				b = b[:r.Intn(len(b))]
			}
			if likeModel(t, string(b)) {
				right++
			}
		}
	}
	if right < 1000 {
		t.Errorf("only %d of the changed messages are right", right)
	}
}

// A pointer into other data than names can say a name for which Bytes has no pointer. Where 4096 bytes have no room for it, P6.1's ErrSize holds.
func TestBytesOfWhatOnlyOtherPointersCanSay(t *testing.T) {
	for size, want := range map[int]api.Errno{100: api.OK, 1808: api.OK, 1809: api.ErrSize, 2000: api.ErrSize} {
		s := head(1, 0, 0, 1, 0, 1) + "\x00\x00\x63\x00\x01\x00\x00\x00\x3c" + word(2000) + most + x(2000-len(most))
		s += to(12+11) + "\x00\x63\x00\x01\x00\x00\x00\x3c" + word(size) + x(size)
		m := api.Message{ID: 1, Answers: []api.RR{other("\x00", 2000)}, Extras: []api.RR{other(most, size)}}
		m.Answers[0].Data = most + x(2000-len(most))
		answers(t, s, m, api.OK)
		written(t, m)
		if back, err := Bytes(m); err != want || (err == api.OK) != (len(back) == len(s)+len(most)-2) {
			t.Errorf("Bytes of what Read answers for %d bytes are %d, %d", len(s), len(back), err)
		}
	}
}

// P1, R3, R4

// within reports whether a text lies in the memory of another one.
func within(part, all string) bool {
	from, start := uintptr(unsafe.Pointer(unsafe.StringData(part))), uintptr(unsafe.Pointer(unsafe.StringData(all)))
	return part != "" && from >= start && from < start+uintptr(len(all))
}

// names are all texts of a message.
func names(m api.Message) []string {
	var out []string
	for _, q := range m.Questions {
		out = append(out, q.Name)
	}
	for _, r := range slices.Concat(m.Answers, m.Authorities, m.Extras) {
		out = append(out, r.Name, r.Data)
	}
	return out
}

func TestNoMemoryIsShared(t *testing.T) {
	s := modelBytes(example())
	m, _ := Read(s)
	for _, n := range names(m) {
		if within(n, s) {
			t.Errorf("Read answers a piece %q of its argument", n)
		}
	}
	for _, list := range kinds(&m) {
		*list = append((*list)[:0:0], *list...)
	}
	r := Reply(m, 0)
	q := Query(1, m.Questions[0])
	if within(r.Questions[0].Name, m.Questions[0].Name) || within(r.Questions[1].Name, m.Questions[1].Name) || within(q.Questions[0].Name, m.Questions[0].Name) {
		t.Error("Reply or Query answers a name of its argument")
	}
	m.Questions[0], m.Questions[1] = asks(dotted("b.")), asks(dotted("c."))
	if !slices.Equal(r.Questions, example().Questions) {
		t.Errorf("Reply's questions are those of its argument: %v", r.Questions)
	}
	r.Questions[0] = api.Question{}
	if m.Questions[0] != asks(dotted("b.")) {
		t.Error("Reply's argument has its questions")
	}
}

// The lists of an answer are apart: to append to one changes no other.
func TestListsAreApart(t *testing.T) {
	want := api.Message{Answers: []api.RR{address("\x00")}, Authorities: []api.RR{address(dotted("a."))}, Extras: []api.RR{address(dotted("b."))}}
	m, _ := Read(modelBytes(want))
	for _, list := range kinds(&m) {
		*list = append(*list, other("\x00", 1), other("\x00", 2))
	}
	for i, list := range kinds(&m) {
		if (*list)[0] != (*kinds(&want)[i])[0] || len(*list) != 3 {
			t.Errorf("list %d is %v", i, *list)
		}
	}
}

func TestArgumentsStay(t *testing.T) {
	m := example()
	for _, limit := range []int{0, 12, 50, 100, 150, 200, 4096} {
		Fit(m, limit)
		Bytes(m)
		Reply(m, 5)
		Matches(m, m)
		if !equal(m, example()) {
			t.Fatalf("the argument is %v", m)
		}
	}
}

func TestAnyArgumentsEnd(t *testing.T) {
	r := rand.New(rand.NewSource(3))
	for range 20000 {
		b := make([]byte, r.Intn(120))
		r.Read(b)
		for i := range b {
			b[i] &= []byte{0xff, 0x3f, 0x03, 0x01}[r.Intn(4)]
			if i >= 4 && i < 12 && r.Intn(2) == 0 {
				b[i] = byte(i % 2)
			}
		}
		s := string(b)
		likeModel(t, s)
		q := api.Question{Name: s, Type: 1}
		m := Query(1, q)
		m.Answers, m.Opcode = []api.RR{{Name: "\x00", Type: uint16(r.Intn(20)), Data: s}}, r.Intn(20)-2
		Bytes(m)
		Fit(m, r.Intn(200)-20)
		Matches(m, Reply(m, r.Intn(20)))
		SameQuestion(q, q)
	}
}

func TestHugeArguments(t *testing.T) {
	huge := strings.Repeat("\x01a", 1<<22)
	refuses(t, "a huge question", Query(1, asks(huge)), api.ErrForm)
	refuses(t, "a huge question", Query(1, asks(huge+"\x00")), api.ErrSize)
	refuses(t, "huge data", api.Message{Answers: []api.RR{{Name: "\x00", Data: huge}}}, api.ErrSize)
	fails(t, huge, api.ErrSize)
	m := api.Message{Questions: make([]api.Question, 65535)}
	for i := range m.Questions {
		m.Questions[i] = asks(most)
	}
	for _, list := range kinds(&m) {
		*list = make([]api.RR, 65535)
		for i := range *list {
			(*list)[i] = other(most, 2000)
		}
	}
	if s, err := Bytes(m); s != "" || err != api.ErrSize {
		t.Errorf("Bytes of all that a header counts are %.20q, %d", s, err)
	}
	if s, err := Fit(m, 512); s != "" || err != api.ErrSize {
		t.Errorf("Fit of all that a header counts is %.20q, %d", s, err)
	}
}

func TestSameCallsAnswerTheSame(t *testing.T) {
	for range 3 {
		s, err := Bytes(example())
		if s != modelBytes(example()) || err != api.OK {
			t.Errorf("Bytes are %q, %d", s, err)
		}
		answers(t, s, example(), api.OK)
	}
}
