package plog

import (
	"encoding/binary"
	"math"
	"math/big"
	"math/rand"
	"slices"
	"strings"
	"testing"
	"unsafe"

	"fingerpost/api"
)

// gives tells of a call that returned another error.
func gives(t *testing.T, what string, got, want api.Errno) {
	t.Helper()
	if got != want {
		t.Errorf("%s is %d, want %d", what, got, want)
	}
}

// counts tells of a call that returned another number.
func counts(t *testing.T, what string, got, want int) {
	t.Helper()
	if got != want {
		t.Errorf("%s is %d, want %d", what, got, want)
	}
}

// sameLog tells if two logs are the same.
func sameLog(a, b api.Log) bool {
	return a.Base == b.Base && a.BaseTerm == b.BaseTerm && slices.Equal(a.Entries, b.Entries)
}

// sameHard tells if two states are the same.
func sameHard(a, b api.Hard) bool {
	return a.Term == b.Term && a.Vote == b.Vote && a.Snap == b.Snap && slices.Equal(a.Voters, b.Voters) && sameLog(a.Log, b.Log)
}

// isLog tells of another log.
func isLog(t *testing.T, what string, got, want api.Log) {
	t.Helper()
	if !sameLog(got, want) {
		t.Errorf("%s is %.200v, want %.200v", what, got, want)
	}
}

// isEntries tells of other entries.
func isEntries(t *testing.T, what string, got, want []api.Entry) {
	t.Helper()
	if !slices.Equal(got, want) {
		t.Errorf("%s is %.200v, want %.200v", what, got, want)
	}
}

// isTexts tells of other strings.
func isTexts(t *testing.T, what string, got, want []string) {
	t.Helper()
	if !slices.Equal(got, want) {
		t.Errorf("%s is %.300q, want %.300q", what, got, want)
	}
}

// e is an entry of a term with these data.
func e(term int, data string) api.Entry {
	return api.Entry{Term: term, Data: data}
}

// logOf is a log whose entries have these terms, and data that tell their places.
func logOf(base, baseTerm int, terms ...int) api.Log {
	l := api.Log{Base: base, BaseTerm: baseTerm}
	for i, term := range terms {
		l.Entries = append(l.Entries, e(term, "abcdefgh"[i:i+1]))
	}
	return l
}

// copyOf is a log in other memory, with room behind its entries, where something else stands.
func copyOf(l api.Log) api.Log {
	n := len(l.Entries)
	list := append(slices.Clone(l.Entries), e(-7, "room"), e(-8, "room"), e(-9, "room"))
	l.Entries = list[:n]
	return l
}

// far are numbers at the ends of what an int is, and some between.
func far() []int {
	out := []int{math.MinInt, math.MinInt + 1, math.MinInt + 2, math.MinInt / 2, -3, -2, -1, 0, 1, 2, 3, 4, 5, 6, 1 << 40, 1<<40 + 1, math.MaxInt / 2}
	return append(out, math.MaxInt-3, math.MaxInt-2, math.MaxInt-1, math.MaxInt)
}

// farLogs are logs with bases at the ends of what an int is, as short ones and empty ones.
func farLogs() []api.Log {
	var out []api.Log
	for _, base := range far() {
		out = append(out, logOf(base, 1), logOf(base, 1, 2), logOf(base, 4, 3, 2, 3))
	}
	return out
}

// behindBase is an index less a log's base, without any limit to it.
func behindBase(l api.Log, i int) *big.Int {
	return new(big.Int).Sub(big.NewInt(int64(i)), big.NewInt(int64(l.Base)))
}

// entryAt is the entry of an index by the chapter's words, and whether there is one.
func entryAt(l api.Log, i int) (api.Entry, bool) {
	for k, entry := range l.Entries {
		if behindBase(l, i).Cmp(big.NewInt(int64(k+1))) == 0 {
			return entry, true
		}
	}
	return api.Entry{}, false
}

// isBehind tells if an index is greater than a log's last one.
func isBehind(l api.Log, i int) bool {
	return behindBase(l, i).Cmp(big.NewInt(int64(len(l.Entries)))) > 0
}

// P11.1: Check

// voterEntry is one of the kind Voters.
func voterEntry(term int, data string) api.Entry {
	return api.Entry{Term: term, Kind: api.Voters, Data: data}
}

// all64 are all voters, as data.
func all64() string {
	out := make([]byte, 64)
	for i := range out {
		out[i] = byte(i)
	}
	return string(out)
}

func TestCheckOfBases(t *testing.T) {
	for _, n := range append(far(), 1<<40-1, 1<<41, 100000, 100001) {
		want := api.OK
		if n < 0 || n > 1<<40 {
			want = api.ErrArg
		}
		gives(t, "Check of a Base", Check(api.Log{Base: n}), want)
		gives(t, "Check of a BaseTerm", Check(api.Log{BaseTerm: n}), want)
		gives(t, "Check of a Base, with entries", Check(logOf(n, 0, 1, 2)), want)
		gives(t, "Check of a BaseTerm, with entries", Check(logOf(0, n, n, n)), want)
	}
	gives(t, "Check of the zero log", Check(api.Log{}), api.OK)
	gives(t, "Check of the greatest base", Check(logOf(1<<40, 1<<40, 1<<40)), api.OK)
}

func TestCheckOfManyEntries(t *testing.T) {
	l := api.Log{Entries: slices.Repeat([]api.Entry{e(1, "")}, 100000)}
	gives(t, "Check of 100000 entries", Check(l), api.OK)
	l.Entries = append(l.Entries, e(1, ""))
	gives(t, "Check of 100001 entries", Check(l), api.ErrArg)
	l.Entries = append(l.Entries, l.Entries...)
	gives(t, "Check of 200002 entries", Check(l), api.ErrArg)
}

func TestCheckOfTerms(t *testing.T) {
	for _, c := range []struct {
		l    api.Log
		want api.Errno
	}{
		{logOf(0, 0, 0), api.OK},
		{logOf(0, 3, 3, 3, 3), api.OK},
		{logOf(9, 3, 3, 4, 4, 7), api.OK},
		{logOf(0, 3, 2), api.ErrArg},
		{logOf(0, 3, 3, 2), api.ErrArg},
		{logOf(0, 3, 5, 4), api.ErrArg},
		{logOf(0, 3, 5, 5, 6, 5), api.ErrArg},
		{logOf(0, 0, -1), api.ErrArg},
		{logOf(0, 0, math.MinInt), api.ErrArg},
		{logOf(0, 0, 1<<40-1, 1<<40), api.OK},
		{logOf(0, 0, 1<<40+1), api.ErrArg},
		{logOf(0, 0, 1, 1<<40+1), api.ErrArg},
		{logOf(0, 0, 1, math.MaxInt), api.ErrArg},
		{logOf(0, -1, 0), api.ErrArg},
	} {
		if got := Check(c.l); got != c.want {
			t.Errorf("Check of %v is %d, want %d", c.l, got, c.want)
		}
	}
}

func TestCheckOfEntries(t *testing.T) {
	kind := func(kind int) api.Entry { return api.Entry{Term: 2, Kind: kind, Data: "\x01"} }
	sized := func(kind, size int) api.Entry {
		return api.Entry{Term: 2, Kind: kind, Data: strings.Repeat("x", size)}
	}
	good := []api.Entry{kind(0), kind(1), kind(2), e(2, ""), sized(0, 8000), sized(2, 8000), sized(0, 7999), voterEntry(2, "\x00"), voterEntry(2, "\x3f"), voterEntry(2, "\x00\x01"), voterEntry(2, "\x05\x3e\x3f"), voterEntry(2, all64()), e(2, "\xff\xff")}
	bad := []api.Entry{kind(-1), kind(3), kind(4), kind(255), kind(256), kind(257), kind(math.MinInt), kind(math.MaxInt), sized(0, 8001), sized(2, 8001), sized(1, 8001), sized(0, 1<<20), voterEntry(2, ""), voterEntry(2, "\x40"), voterEntry(2, "\x01\x40"), voterEntry(2, "\x01\x01"), voterEntry(2, "\x02\x01"), voterEntry(2, "\x00\x00"), voterEntry(2, "\xff"), voterEntry(2, all64()+"\x40"), voterEntry(2, all64()+"\x00")}
	for at := range 4 {
		l := api.Log{Base: 5, BaseTerm: 1, Entries: []api.Entry{e(2, "a"), voterEntry(2, "\x01"), e(2, "b"), {Term: 2, Kind: 2}}}
		for _, entry := range good {
			l.Entries[at] = entry
			gives(t, "Check of a right entry", Check(l), api.OK)
		}
		for _, entry := range bad {
			l.Entries[at] = entry
			if got := Check(l); got != api.ErrArg {
				t.Errorf("Check of a wrong entry, %.40v, is %d", entry, got)
			}
		}
	}
}

// P11.1: Last, Term, Get, Slice

func TestLast(t *testing.T) {
	counts(t, "Last of the zero log", Last(api.Log{}), 0)
	counts(t, "Last of no entries", Last(logOf(7, 3)), 7)
	counts(t, "Last of three entries", Last(logOf(7, 3, 4, 4, 5)), 10)
	counts(t, "Last behind the least base", Last(logOf(math.MinInt, 1, 1)), math.MinInt+1)
	counts(t, "Last that is the greatest number", Last(logOf(math.MaxInt-2, 1, 1, 1)), math.MaxInt)
	counts(t, "Last of many", Last(api.Log{Base: 3, Entries: make([]api.Entry, 100002)}), 100005)
}

// asks asks a log for an index, and tells of another answer than by the chapter's words.
func asks(t *testing.T, l api.Log, i int) {
	t.Helper()
	entry, there := entryAt(l, i)
	if got, ok := Get(l, i); got != entry || ok != there {
		t.Errorf("Get of %v at %d is %v, %v", l, i, got, ok)
	}
	term, known := entry.Term, there
	if i == l.Base {
		term, known = l.BaseTerm, true
	}
	if got, ok := Term(l, i); got != term || ok != known {
		t.Errorf("Term of %v at %d is %d, %v, want %d, %v", l, i, got, ok, term, known)
	}
}

func TestTermAndGet(t *testing.T) {
	for _, l := range append(farLogs(), api.Log{}, logOf(2, 1, 1, 2), logOf(0, 3, 4, 5, 6, 7, 8)) {
		for _, i := range far() {
			asks(t, l, i)
		}
		for d := -4; d <= 8; d++ {
			asks(t, l, l.Base+d)
		}
	}
}

func TestGetIsTheWholeEntry(t *testing.T) {
	l := api.Log{Base: 3, Entries: []api.Entry{{Term: 4, Kind: 1, Data: "\x05"}, {Term: 6, Kind: 2, Data: "x"}}}
	if got, ok := Get(l, 5); got != l.Entries[1] || !ok {
		t.Errorf("Get is %v, %v", got, ok)
	}
	if got, ok := Get(l, 3); got != (api.Entry{}) || ok {
		t.Errorf("Get of the base is %v, %v", got, ok)
	}
}

// slice is what Slice is by the chapter's words.
func slice(l api.Log, from, most int) []api.Entry {
	var out []api.Entry
	for k, entry := range l.Entries {
		if behindBase(l, from).Cmp(big.NewInt(int64(k+1))) <= 0 && len(out) < most {
			out = append(out, entry)
		}
	}
	return out
}

func TestSlice(t *testing.T) {
	for _, l := range append(farLogs(), api.Log{}, logOf(2, 1, 1, 2), logOf(0, 3, 4, 5, 6, 7, 8)) {
		indexes := far()
		for d := -4; d <= 8; d++ {
			indexes = append(indexes, l.Base+d)
		}
		for _, from := range indexes {
			for _, most := range far() {
				isEntries(t, "Slice", Slice(l, from, most), slice(l, from, most))
			}
		}
	}
	many := api.Log{Base: 10}
	for i := range 100 {
		many.Entries = append(many.Entries, e(i, ""))
	}
	isEntries(t, "Slice of many", Slice(many, 31, 16), many.Entries[20:36])
	isEntries(t, "Slice of the last ones", Slice(many, 101, 16), many.Entries[90:])
}

func TestSliceIsNewMemory(t *testing.T) {
	l := copyOf(logOf(2, 1, 1, 2, 3))
	want := copyOf(l)
	for _, from := range []int{0, 3, 4} {
		list := Slice(l, from, 2)
		had := slices.Clone(list)
		_ = append(list, e(9, "x"))
		isLog(t, "a log behind whose Slice something is appended", l, want)
		for i := range list {
			list[i] = e(9, "y")
		}
		isLog(t, "a log whose Slice is changed", l, want)
		list = Slice(l, from, 2)
		other := Slice(l, from, 2)
		for i := range l.Entries {
			l.Entries[i] = e(9, "z")
		}
		isEntries(t, "Slice of a log that is changed", list, had)
		isEntries(t, "Slice of a log that is changed", other, had)
		l = copyOf(want)
	}
}

// P11.2

// keeps does a change of a log, and tells if it changes its arguments, or if these share memory with its result.
func keeps(t *testing.T, what string, l api.Log, entries []api.Entry, change func(l api.Log, entries []api.Entry) api.Log) api.Log {
	t.Helper()
	own := copyOf(l)
	given := slices.Clone(entries)
	got := change(own, given)
	room := own.Entries[:len(own.Entries)+3]
	isEntries(t, what+": the log", own.Entries, l.Entries)
	isEntries(t, what+": what stands behind the log", room[len(own.Entries):], []api.Entry{e(-7, "room"), e(-8, "room"), e(-9, "room")})
	isEntries(t, what+": the entries", given, entries)
	want := api.Log{Base: got.Base, BaseTerm: got.BaseTerm, Entries: slices.Clone(got.Entries)}
	for _, list := range [][]api.Entry{room, given} {
		for i := range list {
			list[i] = e(-5, "changed")
		}
	}
	isLog(t, what+": the result, once the arguments are changed", got, want)
	for i := range got.Entries {
		got.Entries[i] = e(-6, "changed too")
	}
	_ = append(got.Entries, e(-6, "changed too"))
	for _, list := range [][]api.Entry{room, given} {
		for i := range list {
			if list[i] != e(-5, "changed") {
				t.Errorf("%s: the result shares memory with an argument", what)
			}
		}
	}
	return want
}

func TestAdd(t *testing.T) {
	add := func(l api.Log, entries []api.Entry) api.Log { return Add(l, entries...) }
	lists := [][]api.Entry{nil, {}, {e(1, "x")}, {e(5, "x"), voterEntry(1, ""), {Kind: 99, Term: -3}}, slices.Repeat([]api.Entry{e(1, "")}, 50)}
	for _, l := range append(farLogs(), api.Log{}, logOf(2, 1, 1, 2)) {
		for _, list := range lists {
			want := l
			want.Entries = slices.Concat(l.Entries, list)
			isLog(t, "Add", keeps(t, "Add", l, list, add), want)
		}
	}
	isLog(t, "Add of one by one", Add(Add(Add(api.Log{}, e(1, "a")), e(1, "b")), e(2, "c")), logOf(0, 0, 1, 1, 2))
}

func TestAddTwiceToOneLog(t *testing.T) {
	l := api.Log{}
	for i := range 40 {
		a, b := Add(l, e(1, "a")), Add(l, e(2, "b"))
		l = Add(l, e(0, ""))
		if a.Entries[i] != e(1, "a") || b.Entries[i] != e(2, "b") || l.Entries[i] != e(0, "") {
			t.Fatalf("Add to a log of %d entries changes another one's: %v, %v, %v", i, a.Entries[i], b.Entries[i], l.Entries[i])
		}
	}
}

// put is what Put is by the chapter's words.
func put(l api.Log, prev int, entries []api.Entry) (api.Log, int) {
	if prev < 0 || isBehind(l, prev) {
		return l, 0
	}
	for k, entry := range entries {
		i := prev + 1 + k
		if i <= l.Base {
			continue
		}
		if own, ok := entryAt(l, i); ok && own.Term == entry.Term {
			continue
		}
		out := api.Log{Base: l.Base, BaseTerm: l.BaseTerm}
		for j := l.Base + 1; j < i; j++ {
			own, _ := entryAt(l, j)
			out.Entries = append(out.Entries, own)
		}
		out.Entries = append(out.Entries, entries[k:]...)
		return out, i
	}
	return l, 0
}

// puts puts entries to a log, and tells of another result than by the chapter's words.
func puts(t *testing.T, l api.Log, prev int, entries []api.Entry) {
	t.Helper()
	wantLog, wantIndex := put(l, prev, entries)
	index := 0
	got := keeps(t, "Put", l, entries, func(l api.Log, entries []api.Entry) (out api.Log) {
		out, index = Put(l, prev, entries...)
		return out
	})
	if !sameLog(got, wantLog) || index != wantIndex {
		t.Errorf("Put of %v behind %d to %v is %v, %d, want %v, %d", entries, prev, l, got, index, wantLog, wantIndex)
	}
}

// terms are all lists of terms 1 and 2 with at most so many.
func terms(most int) [][]int {
	out := [][]int{nil}
	for from, n := 0, 0; n < most; n++ {
		end := len(out)
		for _, list := range out[from:end] {
			out = append(out, append(slices.Clone(list), 1), append(slices.Clone(list), 2))
		}
		from = end
	}
	return out
}

func TestPutOfAllSmallLogs(t *testing.T) {
	for _, own := range terms(3) {
		for _, given := range terms(3) {
			entries := logOf(0, 0, given...).Entries
			for i := range entries {
				entries[i].Data += "'" // an entry of the same term is the log's own
			}
			for base := range 4 {
				for prev := -2; prev <= base+len(own)+2; prev++ {
					puts(t, logOf(base, 1, own...), prev, entries)
				}
			}
		}
	}
}

func TestPut(t *testing.T) {
	l := logOf(2, 1, 1, 2)
	got, index := Put(l, 3, e(3, "x"))
	isLog(t, "Put of another term", got, api.Log{Base: 2, BaseTerm: 1, Entries: []api.Entry{e(1, "a"), e(3, "x")}})
	counts(t, "the index of what differs", index, 4)
	got, index = Put(l, 3, e(2, "x"), e(2, "y"))
	isLog(t, "Put of one more", got, api.Log{Base: 2, BaseTerm: 1, Entries: []api.Entry{e(1, "a"), e(2, "b"), e(2, "y")}})
	counts(t, "the index of one more", index, 5)
	got, index = Put(l, 2, e(1, "x"))
	isLog(t, "Put of what is there", got, l)
	counts(t, "the index of nothing", index, 0)
	got, index = Put(l, 2, e(2, "x"))
	isLog(t, "Put ahead of other entries", got, api.Log{Base: 2, BaseTerm: 1, Entries: []api.Entry{e(2, "x")}})
	counts(t, "the index of the first one", index, 3)
	got, index = Put(l, 0, e(9, "p"), e(9, "q"), e(1, "r"), e(2, "s"), e(4, "u"))
	isLog(t, "Put from ahead of the base", got, api.Log{Base: 2, BaseTerm: 1, Entries: []api.Entry{e(1, "a"), e(2, "b"), e(4, "u")}})
	counts(t, "the index behind what is there", index, 5)
	kinds := api.Log{Entries: []api.Entry{voterEntry(1, "\x01"), {Term: 1, Kind: 2}}}
	got, index = Put(kinds, 0, e(1, "x"), e(2, "y"))
	isLog(t, "Put of other kinds", got, api.Log{Entries: []api.Entry{voterEntry(1, "\x01"), e(2, "y")}})
	counts(t, "the index behind another kind", index, 2)
}

func TestPutAtFarIndexes(t *testing.T) {
	lists := [][]api.Entry{nil, {e(1, "x")}, {e(2, "x"), e(3, "y")}}
	for _, l := range farLogs() {
		for _, list := range lists {
			for _, prev := range append(far(), l.Base-1, l.Base, l.Base+1, l.Base+3, l.Base+4) {
				if prev >= 0 && prev <= math.MaxInt-8 && l.Base >= 0 {
					puts(t, l, prev, list)
				}
				got, index := Put(l, prev, list...) // whose indexes are beyond all numbers, nothing is said of
				if prev < 0 || isBehind(l, prev) {
					isLog(t, "Put behind a wrong index", got, l)
					counts(t, "the index of what is wrong", index, 0)
				}
			}
		}
	}
	got, index := Put(logOf(math.MaxInt-2, 1, 1), math.MaxInt-1, e(2, "x"))
	isLog(t, "Put at the greatest index", got, api.Log{Base: math.MaxInt - 2, BaseTerm: 1, Entries: []api.Entry{e(1, "a"), e(2, "x")}})
	counts(t, "the greatest index", index, math.MaxInt)
	got, index = Put(logOf(-2, 1, 1, 1), 0, e(2, "x"))
	isLog(t, "Put behind a base that is negative", got, api.Log{Base: -2, BaseTerm: 1, Entries: []api.Entry{e(1, "a"), e(1, "b"), e(2, "x")}})
	counts(t, "the index behind a negative base", index, 1)
}

func TestCut(t *testing.T) {
	for _, l := range append(farLogs(), api.Log{}, logOf(2, 1, 1, 2), logOf(0, 3, 4, 5, 6, 7, 8)) {
		for _, upto := range append(far(), l.Base-1, l.Base, l.Base+1, l.Base+2, l.Base+3, l.Base+4, l.Base+5, l.Base+6) {
			want, wantErr := l, api.ErrArg
			if upto >= l.Base && !isBehind(l, upto) {
				n := int(behindBase(l, upto).Int64())
				want, wantErr = api.Log{Base: upto, BaseTerm: l.BaseTerm, Entries: l.Entries[n:]}, api.OK
				if n > 0 {
					want.BaseTerm = l.Entries[n-1].Term
				}
			}
			var err api.Errno
			got := keeps(t, "Cut", l, nil, func(l api.Log, _ []api.Entry) (out api.Log) {
				out, err = Cut(l, upto)
				return out
			})
			if !sameLog(got, want) || err != wantErr {
				t.Errorf("Cut of %v at %d is %v, %d, want %v, %d", l, upto, got, err, want, wantErr)
			}
		}
	}
}

func TestNewer(t *testing.T) {
	for _, l := range append(farLogs(), api.Log{}, logOf(2, 1, 1, 2), logOf(0, 3, 4, 5, 6, 7, 8), logOf(7, 9)) {
		own := l.BaseTerm
		if n := len(l.Entries); n > 0 {
			own = l.Entries[n-1].Term
		}
		for _, last := range append(far(), l.Base-1, l.Base, l.Base+1, l.Base+2, l.Base+3, l.Base+4, l.Base+5, l.Base+6) {
			for _, term := range append(far(), own-1, own, own+1) {
				noLess := behindBase(l, last).Cmp(big.NewInt(int64(len(l.Entries)))) >= 0
				if got := Newer(l, last, term); got != (term > own || term == own && noLess) {
					t.Errorf("Newer of %v for %d of term %d is %v", l, last, term, got)
				}
			}
		}
	}
	l := logOf(2, 1, 1, 2)
	if !Newer(l, 4, 2) || Newer(l, 3, 2) || !Newer(l, 1, 3) || Newer(l, 100, 1) {
		t.Error("Newer is wrong for the chapter's log")
	}
}

// P11.3

// isList tells if data are a list of voters.
func isList(data string) bool {
	for i := range len(data) {
		if data[i] > 63 || i > 0 && data[i] <= data[i-1] {
			return false
		}
	}
	return data != ""
}

// lists lists voters, and tells of another result than by the chapter's words.
func lists(t *testing.T, data string) {
	t.Helper()
	got, ok := List(data)
	var want []int
	if isList(data) {
		for i := range len(data) {
			want = append(want, int(data[i]))
		}
	}
	if !slices.Equal(got, want) || ok != isList(data) {
		t.Errorf("List of %.100q is %v, %v", data, got, ok)
	}
	if ok && Data(got) != data {
		t.Errorf("Data of %v is %q", got, Data(got))
	}
}

func TestList(t *testing.T) {
	lists(t, "")
	for a := range 256 {
		lists(t, string([]byte{byte(a)}))
		for b := range 256 {
			lists(t, string([]byte{byte(a), byte(b)}))
			lists(t, string([]byte{3, byte(a), byte(b)}))
		}
	}
	lists(t, all64())
	lists(t, all64()[1:])
	lists(t, all64()+"\x3f")
	lists(t, all64()+"\x40")
	lists(t, "\x00"+all64())
	lists(t, strings.Repeat("\x00", 1<<16))
	r := rand.New(rand.NewSource(1))
	for range 20000 {
		b := make([]byte, r.Intn(5))
		for i := range b {
			b[i] = byte(r.Intn(70))
		}
		lists(t, string(b))
	}
}

func TestData(t *testing.T) {
	for _, c := range []struct {
		want   string
		voters []int
	}{
		{"", nil},
		{"", []int{}},
		{"\x00", []int{0}},
		{"\x01\x05\x3f", []int{1, 5, 63}},
		{"\x05\x05\x01", []int{5, 5, 1}},
		{"\x40\xff\x00\x01", []int{64, 255, 256, 257}},
		{"\xff\x80\x00\x00\xff", []int{-1, -128, -256, math.MinInt, math.MaxInt}},
	} {
		if got := Data(c.voters); got != c.want {
			t.Errorf("Data of %v is %q", c.voters, got)
		}
	}
	if got := Data(make([]int, 100000)); got != strings.Repeat("\x00", 100000) {
		t.Errorf("Data of many has %d bytes", len(got))
	}
}

func TestNow(t *testing.T) {
	of := func(voters []int, entries ...api.Entry) api.Hard {
		return api.Hard{Voters: voters, Log: api.Log{Base: 4, Entries: entries}}
	}
	for _, c := range []struct {
		h    api.Hard
		want []int
	}{
		{api.Hard{}, nil},
		{of([]int{1, 2}), []int{1, 2}},
		{of([]int{9, 9, -4, 70}), []int{9, 9, -4, 70}},
		{of([]int{1, 2}, e(1, "\x03"), api.Entry{Kind: 2, Data: "\x03"}), []int{1, 2}},
		{of([]int{1, 2}, api.Entry{Kind: 257, Data: "\x03"}), []int{1, 2}},
		{of([]int{1, 2}, voterEntry(1, "\x03")), []int{3}},
		{of(nil, voterEntry(1, "\x03\x04")), []int{3, 4}},
		{of([]int{1, 2}, voterEntry(1, "\x03"), voterEntry(1, "\x04\x05")), []int{4, 5}},
		{of([]int{1, 2}, voterEntry(1, "\x03"), e(2, "\x07"), voterEntry(1, all64()[:3]), e(2, "\x07"), api.Entry{Kind: 2}), []int{0, 1, 2}},
		{of([]int{1, 2}, voterEntry(1, "\x03"), voterEntry(1, "\x05\x04")), nil}, // by the chapter's words: the List of that entry, which is none
	} {
		if got := Now(c.h); !slices.Equal(got, c.want) {
			t.Errorf("Now of %v is %v, want %v", c.h, got, c.want)
		}
	}
	h := of([]int{1, 2})
	got := Now(h)
	got[0] = 7
	_ = append(got[:1], 8)
	if !slices.Equal(h.Voters, []int{1, 2}) {
		t.Error("a change of what Now answered changes the state")
	}
	got = Now(h)
	h.Voters[0] = 6
	if !slices.Equal(got, []int{1, 2}) {
		t.Error("a change of the state changes what Now answered")
	}
}

// P11.4

// number is Number(n) by the chapter's words.
func number(n int) string {
	whole := big.NewInt(int64(n))
	if n < 0 {
		whole.Add(whole, new(big.Int).Lsh(big.NewInt(1), 64))
	}
	return string(whole.FillBytes(make([]byte, 8)))
}

// full is a state's full record by the chapter's words.
func full(h api.Hard) string {
	out := "W" + number(h.Term) + number(h.Vote) + number(h.Log.Base) + number(h.Log.BaseTerm) + number(len(h.Voters))
	for _, voter := range h.Voters {
		out += string([]byte{byte(voter & 255)})
	}
	return out + number(len(h.Snap)) + h.Snap
}

// term is a term record.
func term(term, vote int) string {
	return "T" + number(term) + number(vote)
}

// entry is an entry record.
func entry(i, term, kind int, data string) string {
	return "E" + number(i) + number(term) + string([]byte{byte(kind & 255)}) + data
}

// entriesFrom are the records of a log's entries from an index on.
func entriesFrom(l api.Log, from int) []string {
	var out []string
	for k, own := range l.Entries {
		if i := l.Base + 1 + k; i >= from {
			out = append(out, entry(i, own.Term, own.Kind, own.Data))
		}
	}
	return out
}

// saves saves a state, and tells of other records.
func saves(t *testing.T, what string, old, next api.Hard, replaces bool, want ...string) {
	t.Helper()
	got, all := Save(old, next)
	isTexts(t, what+": Save", got, want)
	if all != replaces {
		t.Errorf("%s: the records replace all others: %v", what, all)
	}
}

// state is a valid one with three entries.
func state() api.Hard {
	return api.Hard{Term: 5, Vote: 3, Voters: []int{1, 2, 60}, Snap: "snap\x00\xff", Log: logOf(10, 2, 2, 3, 5)}
}

func TestSaveOfNothing(t *testing.T) {
	saves(t, "nothing", api.Hard{}, api.Hard{}, false)
	saves(t, "no change", state(), state(), false)
	empty := api.Hard{Voters: []int{}, Log: api.Log{Entries: []api.Entry{}}}
	saves(t, "nil and empty lists", api.Hard{}, empty, false)
	saves(t, "empty and nil lists", empty, api.Hard{}, false)
}

func TestSaveOfTheFirstState(t *testing.T) {
	h := state()
	saves(t, "the first state", api.Hard{}, h, true, full(h),
		"E\x00\x00\x00\x00\x00\x00\x00\x0b\x00\x00\x00\x00\x00\x00\x00\x02\x00a",
		"E\x00\x00\x00\x00\x00\x00\x00\x0c\x00\x00\x00\x00\x00\x00\x00\x03\x00b",
		"E\x00\x00\x00\x00\x00\x00\x00\x0d\x00\x00\x00\x00\x00\x00\x00\x05\x00c")
	z := "\x00\x00\x00\x00\x00\x00\x00"
	saves(t, "the first state without entries", api.Hard{}, api.Hard{Term: 5, Vote: 3, Voters: []int{1, 60}, Snap: "ab", Log: logOf(0x102, 4)}, true,
		"W"+z+"\x05"+z+"\x03"+"\x00\x00\x00\x00\x00\x00\x01\x02"+z+"\x04"+z+"\x02\x01\x3c"+z+"\x02ab")
	h = api.Hard{Term: 1, Log: logOf(0, 0, 1)}
	saves(t, "the first state, without voters", api.Hard{}, h, false, term(1, 0), entry(1, 1, 0, "a"))
}

func TestSaveOfWhatNeedsAFullRecord(t *testing.T) {
	for i, change := range []func(h *api.Hard){
		func(h *api.Hard) { h.Log.Base++ },
		func(h *api.Hard) { h.Log.BaseTerm-- },
		func(h *api.Hard) { h.Snap += "x" },
		func(h *api.Hard) { h.Snap = "" },
		func(h *api.Hard) { h.Snap = "snaq\x00\xff" },
		func(h *api.Hard) { h.Voters = nil },
		func(h *api.Hard) { h.Voters = []int{1, 2} },
		func(h *api.Hard) { h.Voters = []int{1, 2, 60, 61} },
		func(h *api.Hard) { h.Voters = []int{1, 2, 61} },
		func(h *api.Hard) { h.Voters = []int{0, 2, 60} },
		func(h *api.Hard) { h.Voters = []int{1, 2, 60 + 256} },
		func(h *api.Hard) { h.Log.Base, h.Log.BaseTerm, h.Log.Entries = 11, 2, h.Log.Entries[1:] },
		func(h *api.Hard) { h.Log.Entries = h.Log.Entries[:2] },
		func(h *api.Hard) { h.Log.Entries = nil },
		func(h *api.Hard) { h.Term, h.Vote, h.Log.Entries = 6, 0, h.Log.Entries[:1] },
	} {
		for _, more := range []func(h *api.Hard){
			func(h *api.Hard) {},
			func(h *api.Hard) { h.Term++ },
		} {
			h := state()
			change(&h)
			more(&h)
			what := "change " + string('a'+rune(i))
			saves(t, what, state(), h, true, append([]string{full(h)}, entriesFrom(h.Log, h.Log.Base+1)...)...)
		}
	}
	h := state()
	h.Snap = "x"
	h.Log.Entries = append(h.Log.Entries, e(6, "d"))
	saves(t, "a snap and an entry", state(), h, true, full(h), entry(11, 2, 0, "a"), entry(12, 3, 0, "b"), entry(13, 5, 0, "c"), entry(14, 6, 0, "d"))
}

func TestSaveOfTerms(t *testing.T) {
	for _, c := range [][2]int{{6, 3}, {5, 0}, {6, 0}, {0, 3}, {4, 64}, {-1, 3}, {5, math.MinInt}, {math.MaxInt, -2}} {
		h := state()
		h.Term, h.Vote = c[0], c[1]
		saves(t, "a term", state(), h, false, term(c[0], c[1]))
		h.Log.Entries = append(h.Log.Entries, e(6, "d"), e(7, "f"))
		saves(t, "a term and entries", state(), h, false, term(c[0], c[1]), entry(14, 6, 0, "d"), entry(15, 7, 0, "f"))
	}
}

func TestSaveOfEntries(t *testing.T) {
	others := []func(own *api.Entry){
		func(own *api.Entry) { own.Term++ },
		func(own *api.Entry) { own.Kind = 2 },
		func(own *api.Entry) { own.Kind += 256 },
		func(own *api.Entry) { own.Data += "x" },
		func(own *api.Entry) { own.Data = "" },
	}
	for at := range 3 {
		for _, change := range others {
			for end := at + 1; end <= 4; end++ {
				h := state()
				h.Log.Entries = append(h.Log.Entries, e(9, "d"))[:end]
				change(&h.Log.Entries[at])
				saves(t, "an entry", state(), h, false, entriesFrom(h.Log, 11+at)...)
			}
		}
	}
	h := state()
	h.Log.Entries = append(h.Log.Entries, voterEntry(5, "\x01\x02"), api.Entry{Term: 5, Kind: 2})
	saves(t, "more entries", state(), h, false, entry(14, 5, 1, "\x01\x02"), entry(15, 5, 2, ""))
	old := state()
	old.Log.Entries = nil
	saves(t, "all entries", old, state(), false, entriesFrom(state().Log, 11)...)
}

func TestSaveOfWhatIsNotValid(t *testing.T) {
	h := api.Hard{Term: -1, Vote: math.MinInt, Voters: []int{300, -1, 5, 5}, Snap: strings.Repeat("s", 50001)}
	h.Log = api.Log{Base: -2, BaseTerm: math.MaxInt, Entries: []api.Entry{{Term: -3, Kind: 258, Data: strings.Repeat("d", 8001)}, {Term: math.MinInt, Kind: -1}, {Kind: math.MinInt}}}
	want := []string{full(h), entry(-1, -3, 2, h.Log.Entries[0].Data), entry(0, math.MinInt, 255, ""), entry(1, 0, 0, "")}
	saves(t, "wrong numbers", api.Hard{}, h, true, want...)
	saves(t, "no change of wrong numbers", h, h, false)
	if !strings.HasPrefix(want[0], "W\xff\xff\xff\xff\xff\xff\xff\xff\x80\x00\x00\x00\x00\x00\x00\x00\xff\xff\xff\xff\xff\xff\xff\xfe\x7f\xff") {
		t.Errorf("the record of wrong numbers is %.50q", want[0])
	}
}

func TestSaveKeepsItsArguments(t *testing.T) {
	old, next := state(), state()
	old.Log, next.Log = copyOf(old.Log), copyOf(next.Log)
	next.Log.Entries[1].Data = "other"
	had := next
	had.Log = copyOf(next.Log)
	got, _ := Save(old, next)
	again, _ := Save(old, next)
	if !sameHard(old, state()) || !sameHard(next, had) {
		t.Error("Save changes its arguments")
	}
	got[0] = "changed"
	isTexts(t, "Save once more", again, entriesFrom(next.Log, 12))
}

// P11.5

// loads loads records, and tells of another state.
func loads(t *testing.T, what string, want api.Hard, records ...string) {
	t.Helper()
	got, err := Load(records...)
	if err != api.OK || !sameHard(got, want) {
		t.Errorf("%s: Load of %.300q is %.200v, %d, want %.200v", what, records, got, err, want)
	}
}

// isZero tells if a state is the zero one.
func isZero(h api.Hard) bool {
	return sameHard(h, api.Hard{}) && h.Voters == nil && h.Log.Entries == nil
}

// fails tells of records that Load takes.
func fails(t *testing.T, what string, records ...string) {
	t.Helper()
	if got, err := Load(records...); err != api.ErrForm || !isZero(got) {
		t.Errorf("%s: Load of %.300q is %.200v, %d", what, records, got, err)
	}
}

func TestLoadOfNothing(t *testing.T) {
	loads(t, "no records", api.Hard{})
}

func TestLoad(t *testing.T) {
	h := state()
	bare := h
	bare.Log.Entries = nil
	loads(t, "a full record", bare, full(bare))
	all := append([]string{full(h)}, entriesFrom(h.Log, 11)...)
	loads(t, "entries", h, all...)
	next := h
	next.Term, next.Vote = 9, 0
	loads(t, "a term", next, append(all, term(9, 0))...)
	loads(t, "two terms", h, append(all, term(9, 0), term(5, 3))...)
	next = h
	next.Log.Entries = []api.Entry{e(2, "a"), voterEntry(4, "\x07")}
	loads(t, "an entry in place of others", next, append(all, entry(12, 4, 1, "\x07"))...)
	next.Log.Entries = []api.Entry{{Term: 7, Kind: 2, Data: "x"}}
	loads(t, "an entry in place of all", next, append(all, entry(11, 7, 2, "x"))...)
	next.Log.Entries = append(slices.Clone(h.Log.Entries), e(7, ""))
	loads(t, "one more entry", next, append(all, entry(14, 7, 0, ""))...)
	loads(t, "a full record behind others", bare, append(all, full(h))...)
	loads(t, "a full record behind another state's", h, append([]string{full(api.Hard{Term: 99, Voters: []int{5}, Log: logOf(50, 40)}), entry(51, 60, 0, "z")}, all...)...)
	loads(t, "a state without voters", api.Hard{}, full(api.Hard{}))
}

func TestLoadOfTheGreatest(t *testing.T) {
	h := api.Hard{Term: 1 << 40, Vote: 1 << 40, Voters: make([]int, 64), Snap: strings.Repeat("\xfe", 50000)}
	for i := range 64 {
		h.Voters[i] = i
	}
	h.Log = api.Log{Base: 1 << 40, BaseTerm: 1 << 40, Entries: []api.Entry{e(1<<40, strings.Repeat("d", 8000))}}
	loads(t, "the greatest numbers", h, full(h), entriesFrom(h.Log, 0)[0])
}

func TestLoadOfManyRecords(t *testing.T) {
	h := api.Hard{Voters: []int{1}}
	records := []string{full(h)}
	for i := range 100000 {
		records = append(records, entry(i+1, 1, 0, ""))
		h.Log.Entries = append(h.Log.Entries, e(1, ""))
	}
	loads(t, "100000 entries", h, records...)
	records = append(records, entry(100001, 1, 0, ""))
	fails(t, "100001 entries", records...)
	h.Log.Entries = h.Log.Entries[:3]
	loads(t, "100001 entries of which three stay", h, append(records, entry(3, 1, 0, ""))...)
}

func TestLoadOfWrongBeginnings(t *testing.T) {
	fails(t, "a term first", term(1, 0))
	fails(t, "an entry first", entry(1, 1, 0, ""))
	fails(t, "a term ahead of a full record", term(1, 0), full(state()))
	fails(t, "an entry ahead of a full record", entry(1, 1, 0, ""), full(state()))
	fails(t, "an empty record", "")
	fails(t, "an empty record behind a full one", full(state()), "")
	fails(t, "an empty record ahead of a full one", "", full(state()))
	for b := range 256 {
		form := string([]byte{byte(b)})
		body := full(state())[1:]
		if form != "W" {
			fails(t, "another form first", form+body)
		}
		if form != "W" && form != "T" && form != "E" {
			fails(t, "another form", full(state()), form+body)
			fails(t, "another form, short", full(state()), form)
			fails(t, "another form, of a term's size", full(state()), form+term(1, 1)[1:])
		}
	}
}

func TestLoadOfRecordsThatAreCut(t *testing.T) {
	h := state()
	w := full(h)
	for n := range len(w) {
		fails(t, "a full record that is cut", w[:n])
		fails(t, "a full record that is cut, behind another", w, w[:n])
	}
	fails(t, "a full record with a byte more", w+"\x00")
	fails(t, "a full record with more bytes", w+w)
	for n := range len(term(6, 1)) {
		fails(t, "a term record that is cut", w, term(6, 1)[:n])
	}
	fails(t, "a term record with a byte more", w, term(6, 1)+"\x00")
	fails(t, "a term record with more bytes", w, term(6, 1)+term(6, 1))
	one := entry(11, 3, 0, "")
	for n := range len(one) {
		fails(t, "an entry record that is cut", w, one[:n])
	}
	for n := range 12 {
		data := "abcdefghijkl"[:n]
		want := h
		want.Log.Entries = []api.Entry{e(3, data)}
		loads(t, "an entry's data", want, w, one+data)
	}
}

func TestLoadOfGreatNumbers(t *testing.T) {
	w := full(state())
	places := map[string][]int{w: {1, 9, 17, 25, 33, 44}, term(6, 1): {1, 9}, entry(11, 3, 0, "d"): {1, 9}}
	for record, starts := range places {
		for _, at := range starts {
			for _, n := range []uint64{1<<40 + 1, 1<<41 - 1, 1 << 41, 1<<41 + 1, 1 << 42, 1 << 62, 1 << 63, 1<<63 + 5, math.MaxUint64, math.MaxUint64 - 30} {
				b := []byte(record)
				binary.BigEndian.PutUint64(b[at:], n)
				fails(t, "a great number at the end", append(slices.Clone([]string{w}), string(b))...)
				if record == w {
					fails(t, "a great number first", string(b))
				}
				again := []string{w, string(b), w}
				passes := n < 1<<41 && (record == w && at < 33 || record[0] == 'T' || record[0] == 'E' && at == 9)
				got, err := Load(again...)
				want := state()
				want.Log.Entries = nil
				if passes && (err != api.OK || !sameHard(got, want)) || !passes && (err != api.ErrForm || !isZero(got)) {
					t.Errorf("Load of %d at %d of %q, with a full record behind it, is %v, %d", n, at, record, got, err)
				}
			}
		}
	}
}

func TestLoadOfWrongVoters(t *testing.T) {
	for _, voters := range [][]int{{64}, {1, 1}, {2, 1}, {0, 0}, {255}, {1, 2, 3, 64}, make([]int, 1000)} {
		h := state()
		h.Voters = voters
		fails(t, "wrong voters", full(h))
		fails(t, "wrong voters ahead of a right state", full(h), full(state()))
	}
}

func TestLoadOfLongSnaps(t *testing.T) {
	h := state()
	h.Log.Entries = nil
	for _, size := range []int{0, 1, 255, 256, 49999, 50000} {
		h.Snap = strings.Repeat("s", size)
		loads(t, "a snap", h, full(h))
	}
	for _, size := range []int{50001, 65536, 1 << 20} {
		h.Snap = strings.Repeat("s", size)
		fails(t, "a long snap", full(h))
		fails(t, "a long snap ahead of a right state", full(h), full(state()))
	}
}

func TestLoadOfWrongIndexes(t *testing.T) {
	h := state()
	all := append([]string{full(h)}, entriesFrom(h.Log, 11)...)
	for n := range len(all) {
		for i := range 20 {
			records := append(slices.Clone(all[:n+1]), entry(i, 5, 0, "x"))
			if i < 11 || i > 11+n {
				fails(t, "a wrong index", records...)
				fails(t, "a wrong index ahead of a right state", append(records, all...)...)
				continue
			}
			want := h
			want.Log.Entries = append(slices.Clone(h.Log.Entries[:i-11]), e(5, "x"))
			loads(t, "a right index", want, records...)
		}
	}
	fails(t, "an index of the state ahead of the last one", append(all, full(api.Hard{Voters: []int{1}, Log: logOf(3, 1)}), entry(11, 3, 0, ""))...)
}

func TestLoadOfWhatIsWrongAtTheEnd(t *testing.T) {
	w := full(state())
	long := strings.Repeat("d", 8001)
	for _, one := range []string{entry(11, 1, 0, ""), entry(11, 1<<40+1, 0, ""), entry(11, 3, 3, ""), entry(11, 3, 255, ""), entry(11, 3, 1, ""), entry(11, 3, 1, "\x40"), entry(11, 3, 1, "\x02\x02"), entry(11, 3, 0, long), entry(11, 3, 2, long)} {
		fails(t, "a wrong entry", w, one)
		fails(t, "a wrong entry ahead of another one", w, one, entry(12, 1<<40, 0, ""))
		want := state()
		want.Log.Entries = []api.Entry{e(4, "r")}
		loads(t, "a wrong entry that is replaced", want, w, one, entry(11, 4, 0, "r"))
		want.Log.Entries = nil
		loads(t, "a wrong entry that a full record replaces", want, w, one, w)
	}
	fails(t, "terms that fall", w, entry(11, 5, 0, ""), entry(12, 4, 0, ""))
	want := state()
	want.Log.Entries = nil
	for _, c := range [][2]int{{1<<40 + 1, 0}, {1, 1<<40 + 1}, {1<<41 - 1, 1<<41 - 1}} {
		fails(t, "a great term", w, term(c[0], c[1]))
		loads(t, "a great term that is replaced", want, w, term(c[0], c[1]), term(5, 3))
		h := state()
		h.Term, h.Vote = c[0], c[1]
		fails(t, "a great term at first", full(h))
		loads(t, "a great term at first that is replaced", want, full(h), term(5, 3))
	}
	for _, c := range [][2]int{{1<<40 + 1, 0}, {0, 1<<40 + 1}} {
		h := state()
		h.Log = logOf(c[0], c[1])
		fails(t, "a great base", full(h))
		loads(t, "a great base that is replaced", want, full(h), w)
	}
}

func TestLoadIsNewMemory(t *testing.T) {
	h := state()
	h.Snap, h.Log.Entries = strings.Repeat("s", 100), []api.Entry{e(3, "data"), voterEntry(5, "\x01")}
	records := append([]string{full(h)}, entriesFrom(h.Log, 11)...)
	given := slices.Clone(records)
	got, _ := Load(given...)
	clear(given)
	if !sameHard(got, h) {
		t.Errorf("Load, once the records are changed, is %v", got)
	}
	for _, part := range []string{got.Snap, got.Log.Entries[0].Data, got.Log.Entries[1].Data} {
		at := uintptr(unsafe.Pointer(unsafe.StringData(part)))
		for _, record := range records {
			if from := uintptr(unsafe.Pointer(unsafe.StringData(record))); at >= from && at < from+uintptr(len(record)) {
				t.Errorf("%.20q holds a record in memory", part)
			}
		}
	}
	got.Voters[0], got.Log.Entries[0] = 9, e(9, "")
	loads(t, "Load once more", h, records...)
}

// wholeNumber reads a number that is less than 2^41 from the beginning of a text.
func wholeNumber(s string) (int, string, bool) {
	if len(s) < 8 {
		return 0, "", false
	}
	n := new(big.Int).SetBytes([]byte(s[:8]))
	return int(n.Int64()), s[8:], n.BitLen() <= 41
}

// second is a second reading of Load's words.
func second(records []string) (api.Hard, bool) {
	var h api.Hard
	for i, record := range records {
		if record == "" || i == 0 && record[0] != 'W' {
			return api.Hard{}, false
		}
		var ok bool
		if h, ok = secondStep(h, record[0], record[1:]); !ok {
			return api.Hard{}, false
		}
	}
	return h, Check(h.Log) == api.OK && h.Term <= 1<<40 && h.Vote <= 1<<40
}

// secondStep is a state after one more record, which is split into a form and the rest.
func secondStep(h api.Hard, form byte, rest string) (api.Hard, bool) {
	var n []int
	size := map[byte]int{'W': 5, 'T': 2, 'E': 2}[form]
	for range size {
		one, behind, ok := wholeNumber(rest)
		if !ok {
			return h, false
		}
		n, rest = append(n, one), behind
	}
	switch form {
	case 'W':
		if n[4] > len(rest) || n[4] > 0 && !isList(rest[:n[4]]) {
			return h, false
		}
		h = api.Hard{Term: n[0], Vote: n[1], Log: api.Log{Base: n[2], BaseTerm: n[3]}}
		for _, voter := range []byte(rest[:n[4]]) {
			h.Voters = append(h.Voters, int(voter))
		}
		length, snap, ok := wholeNumber(rest[n[4]:])
		h.Snap = snap
		return h, ok && length == len(snap) && length <= 50000
	case 'T':
		h.Term, h.Vote = n[0], n[1]
		return h, rest == ""
	case 'E':
		if n[0] < h.Log.Base+1 || n[0] > h.Log.Base+len(h.Log.Entries)+1 || rest == "" {
			return h, false
		}
		one := api.Entry{Term: n[1], Kind: int(rest[0]), Data: rest[1:]}
		h.Log.Entries = append(slices.Clone(h.Log.Entries[:n[0]-h.Log.Base-1]), one)
		return h, true
	}
	return h, false
}

// anyRecord is one that may be right, or nearly so.
func anyRecord(r *rand.Rand) string {
	h := api.Hard{Term: r.Intn(4), Vote: r.Intn(3), Snap: "abc"[:r.Intn(4)], Log: logOf(r.Intn(3), r.Intn(2))}
	if r.Intn(4) > 0 {
		h.Voters, _ = List(all64()[:r.Intn(4)])
	}
	record := full(h)
	switch r.Intn(8) {
	case 0, 1:
		record = term(r.Intn(4), r.Intn(4))
	case 2, 3, 4, 5:
		record = entry(1+r.Intn(5), r.Intn(4), r.Intn(3), "\x01\x02\x03"[:r.Intn(4)])
	}
	b := []byte(record)
	switch r.Intn(25) {
	case 0:
		b[r.Intn(len(b))] ^= 1 << r.Intn(8)
	case 1:
		b = b[:r.Intn(len(b)+1)]
	case 2:
		b = append(b, byte(r.Intn(256)))
	case 3:
		at := r.Intn(len(b))
		b = slices.Delete(b, at, at+1)
	}
	return string(b)
}

func TestLoadOfAnyRecords(t *testing.T) {
	r := rand.New(rand.NewSource(2))
	right := 0
	for range 200000 {
		var records []string
		for range 1 + r.Intn(6) {
			records = append(records, anyRecord(r))
		}
		if r.Intn(2) == 0 {
			records[0] = full(api.Hard{Term: r.Intn(3), Voters: []int{1, 2}, Log: logOf(r.Intn(3), r.Intn(2))})
		}
		want, ok := second(records)
		if !ok {
			fails(t, "any records", records...)
			continue
		}
		right++
		loads(t, "any records", want, records...)
	}
	if right < 10000 {
		t.Errorf("only %d of the records are right", right)
	}
}

// P11.6

// anyEntry is a valid one of a term.
func anyEntry(r *rand.Rand, term int) api.Entry {
	switch r.Intn(4) {
	case 0:
		return voterEntry(term, []string{"\x01", "\x01\x02", "\x3f", all64()}[r.Intn(4)])
	case 1:
		return api.Entry{Term: term, Kind: 2}
	}
	return e(term, []string{"", "a", "\x00", "E", strings.Repeat("d", 8000)}[r.Intn(5)])
}

// anyChange is a state that may come behind another one.
func anyChange(r *rand.Rand, h api.Hard) api.Hard {
	last := Last(h.Log)
	own, _ := Term(h.Log, last)
	switch r.Intn(9) {
	case 0:
		h.Term, h.Vote = h.Term+1, r.Intn(4)
	case 1:
		h.Vote = r.Intn(65)
	case 2, 3:
		h.Log = Add(h.Log, anyEntry(r, own), anyEntry(r, own+r.Intn(2)))
	case 4:
		at := h.Log.Base + r.Intn(len(h.Log.Entries)+1)
		h.Log, _ = Put(h.Log, at, anyEntry(r, own+1))
	case 5:
		h.Log, _ = Cut(h.Log, h.Log.Base+r.Intn(len(h.Log.Entries)+1))
		h.Snap = strings.Repeat("s", r.Intn(5))
	case 6:
		h.Log.Entries = h.Log.Entries[:r.Intn(len(h.Log.Entries)+1)]
	case 7:
		h.Log = api.Log{Base: last + r.Intn(3), BaseTerm: own + r.Intn(2)}
		h.Snap = string([]byte{byte(r.Intn(256))})
	case 8:
		h.Voters, _ = List([]string{"", "\x00", "\x01\x02\x03", all64()}[r.Intn(4)])
	}
	return h
}

func TestSaveAndLoad(t *testing.T) {
	r := rand.New(rand.NewSource(3))
	for range 300 {
		var old api.Hard
		var disk []string
		next := api.Hard{Term: r.Intn(3), Voters: []int{1, 2, 3}[:1+r.Intn(3)]}
		for range 60 {
			records, all := Save(old, next)
			if all {
				disk = nil
			}
			disk = append(disk, records...)
			loads(t, "what was saved step by step", next, disk...)
			old, next = next, anyChange(r, next)
			if r.Intn(3) == 0 {
				next = anyChange(r, next)
			}
		}
	}
}

func TestSaveOfOneEntryLess(t *testing.T) {
	h := api.Hard{Voters: []int{1}, Log: logOf(0, 0, 1, 1, 1)}
	records, _ := Save(api.Hard{}, h)
	less := h
	less.Log = logOf(0, 0, 1, 1)
	more, all := Save(h, less)
	if all {
		records = nil
	}
	loads(t, "one entry less", less, append(records, more...)...)
}

// P1, R4

func TestNothingPanics(t *testing.T) {
	odd := []api.Entry{{}, {Term: math.MinInt, Kind: math.MaxInt}, voterEntry(math.MaxInt, "\xff"), e(1, strings.Repeat("x", 9000))}
	for _, base := range far() {
		for n := range len(odd) + 1 {
			l := api.Log{Base: base, BaseTerm: -base, Entries: odd[:n]}
			h := api.Hard{Term: base, Vote: -base, Voters: []int{base, -base}, Log: l}
			Check(l)
			Last(l)
			Now(h)
			Save(api.Hard{}, h)
			Save(h, api.Hard{})
			for _, i := range far() {
				Term(l, i)
				Get(l, i)
				Cut(l, i)
				for _, k := range far() {
					Slice(l, i, k)
					Newer(l, i, k)
				}
				for m := range len(odd) + 1 {
					Put(l, i, odd[:m]...)
				}
				other := h
				other.Log.Base = i
				records, _ := Save(h, other)
				Load(records...)
			}
		}
	}
}

func TestSameCallsSameResults(t *testing.T) {
	old, next := state(), state()
	next.Log = Add(next.Log, e(8, "x"))
	first, _ := Save(old, next)
	for range 3 {
		again, _ := Save(old, next)
		isTexts(t, "Save once more", again, first)
		isEntries(t, "Slice once more", Slice(next.Log, 12, 2), next.Log.Entries[1:3])
		loads(t, "Load once more", next, append([]string{full(next)}, entriesFrom(next.Log, 0)...)...)
	}
}
