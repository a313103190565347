package raft

import (
	"fmt"
	"math"
	"math/rand"
	"reflect"
	"slices"
	"strconv"
	"strings"
	"testing"

	"fingerpost/api"
	"fingerpost/plog"
)

// gives tells of a call that returned another error.
func gives(t *testing.T, what string, got, want api.Errno) {
	t.Helper()
	if got != want {
		t.Errorf("%s is %d, want %d", what, got, want)
	}
}

// counts tells of a call that returned another number.
func counts(t *testing.T, what string, got, want int) {
	t.Helper()
	if got != want {
		t.Errorf("%s is %d, want %d", what, got, want)
	}
}

// sameHard tells if two states are the same, but for nil and empty lists.
func sameHard(a, b api.Hard) bool {
	return a.Term == b.Term && a.Vote == b.Vote && a.Snap == b.Snap && slices.Equal(a.Voters, b.Voters) &&
		a.Log.Base == b.Log.Base && a.Log.BaseTerm == b.Log.BaseTerm && slices.Equal(a.Log.Entries, b.Log.Entries)
}

// sameRaft tells if two nodes are the same, but for nil and empty lists.
func sameRaft(a, b api.Raft) bool {
	return a.Me == b.Me && a.Role == b.Role && a.Leader == b.Leader && a.Commit == b.Commit && a.Left == b.Left &&
		sameHard(a.Hard, b.Hard) && slices.Equal(a.Votes, b.Votes) && slices.Equal(a.Marks, b.Marks)
}

// sameNote tells if two notes are the same, but for nil and empty lists.
func sameNote(a, b api.Note) bool {
	lists := slices.Equal(a.Entries, b.Entries) && slices.Equal(a.Voters, b.Voters)
	a.Entries, a.Voters, b.Entries, b.Voters = nil, nil, nil, nil
	return lists && reflect.DeepEqual(a, b)
}

// shown is the beginning of what a value is as a text.
func shown(value any) string {
	text := fmt.Sprintf("%+v", value)
	return text[:min(len(text), 900)]
}

// isRaft tells of another node.
func isRaft(t *testing.T, what string, got, want api.Raft) {
	t.Helper()
	if !sameRaft(got, want) {
		t.Errorf("%s is\n%s, want\n%s", what, shown(got), shown(want))
	}
}

// isNotes tells of other notes.
func isNotes(t *testing.T, what string, got []api.Note, want ...api.Note) {
	t.Helper()
	if !slices.EqualFunc(got, want, sameNote) {
		t.Errorf("%s sends\n%s, want\n%s", what, shown(got), shown(want))
	}
}

// e is an entry of a term with these data.
func e(term int, data string) api.Entry {
	return api.Entry{Term: term, Data: data}
}

// nothing is an entry of a term with which a leader begins.
func nothing(term int) api.Entry {
	return api.Entry{Term: term, Kind: 2}
}

// voterEntry is one of the kind Voters.
func voterEntry(term int, data string) api.Entry {
	return api.Entry{Term: term, Kind: 1, Data: data}
}

// logOf is a log whose entries have these terms, and data that tell their places.
func logOf(base, baseTerm int, terms ...int) api.Log {
	l := api.Log{Base: base, BaseTerm: baseTerm}
	for i, term := range terms {
		l.Entries = append(l.Entries, e(term, strconv.Itoa(i+1)))
	}
	return l
}

// hardOf is a state of a term, without a vote, with these voters.
func hardOf(term int, l api.Log, voters ...int) api.Hard {
	return api.Hard{Term: term, Voters: voters, Log: l, Snap: "snap"}
}

// far are numbers at the ends of what an int is, and some between.
func far() []int {
	out := []int{math.MinInt, math.MinInt + 1, math.MinInt + 2, math.MinInt / 2, -257, -3, -2, -1, 0, 1, 2, 3, 4, 5, 6, 7}
	out = append(out, 15, 16, 17, 63, 64, 65, 255, 256, 257, 1<<40-1, 1<<40, 1<<40+1, 1<<41)
	return append(out, math.MaxInt/2, math.MaxInt-3, math.MaxInt-2, math.MaxInt-1, math.MaxInt)
}

// all64 are all voters, as data.
func all64() string {
	out := make([]byte, 64)
	for i := range out {
		out[i] = byte(i)
	}
	return string(out)
}

// twin is a copy of a node in other memory, with room behind its lists, where something else stands.
func twin(r api.Raft) api.Raft {
	r.Hard.Voters = append(slices.Clone(r.Hard.Voters), -7, -7)[:len(r.Hard.Voters)]
	r.Hard.Log.Entries = append(slices.Clone(r.Hard.Log.Entries), e(-7, "room"), e(-7, "room"))[:len(r.Hard.Log.Entries)]
	r.Votes = append(slices.Clone(r.Votes), -7, -7)[:len(r.Votes)]
	r.Marks = append(slices.Clone(r.Marks), api.Mark{Node: -7}, api.Mark{Node: -7})[:len(r.Marks)]
	return r
}

// scribble writes over all lists of a node, and over what stands behind them.
func scribble(r api.Raft) {
	for i := range r.Hard.Voters[:cap(r.Hard.Voters)] {
		r.Hard.Voters[:cap(r.Hard.Voters)][i] = -9
	}
	for i := range r.Hard.Log.Entries[:cap(r.Hard.Log.Entries)] {
		r.Hard.Log.Entries[:cap(r.Hard.Log.Entries)][i] = e(-9, "scribble")
	}
	for i := range r.Votes[:cap(r.Votes)] {
		r.Votes[:cap(r.Votes)][i] = -9
	}
	for i := range r.Marks[:cap(r.Marks)] {
		r.Marks[:cap(r.Marks)][i] = api.Mark{Node: -9, Next: -9, Match: -9}
	}
}

// scribbleNotes writes over all lists of notes.
func scribbleNotes(notes []api.Note) {
	for _, n := range notes {
		for i := range n.Entries[:cap(n.Entries)] {
			n.Entries[:cap(n.Entries)][i] = e(-8, "scribble")
		}
		for i := range n.Voters[:cap(n.Voters)] {
			n.Voters[:cap(n.Voters)][i] = -8
		}
	}
}

// twinNote is a copy of a note in other memory.
func twinNote(n api.Note) api.Note {
	n.Entries, n.Voters = slices.Clone(n.Entries), slices.Clone(n.Voters)
	return n
}

// second is a second reading of the chapter's words: a node that changes, and what it has sent.
type second struct {
	api.Raft
	out []api.Note
}

// of is the second reading of a node.
func of(r api.Raft) *second {
	return &second{Raft: twin(r)}
}

// end is the last index.
func (m *second) end() int {
	return m.Hard.Log.Base + len(m.Hard.Log.Entries)
}

// term is the term of an index, or -1.
func (m *second) term(i int) int {
	if i == m.Hard.Log.Base {
		return m.Hard.Log.BaseTerm
	}
	if i < m.Hard.Log.Base || i > m.end() {
		return -1
	}
	return m.Hard.Log.Entries[i-m.Hard.Log.Base-1].Term
}

// votersUpTo are the voters as of an index.
func (m *second) votersUpTo(i int) []int {
	voters := m.Hard.Voters
	for k, entry := range m.Hard.Log.Entries {
		if entry.Kind == 1 && m.Hard.Log.Base+k+1 <= i {
			voters = nil
			for _, b := range []byte(entry.Data) {
				voters = append(voters, int(b))
			}
		}
	}
	return slices.Clone(voters)
}

// others are the voters but the node itself.
func (m *second) others() []int {
	var out []int
	for node := range 64 {
		if node != m.Me && slices.Contains(m.votersUpTo(m.end()), node) {
			out = append(out, node)
		}
	}
	return out
}

// most tells if more than half of the voters satisfy a test.
func (m *second) most(test func(voter int) bool) bool {
	yes, no := 0, 0
	for _, voter := range m.votersUpTo(m.end()) {
		if test(voter) {
			yes++
		} else {
			no++
		}
	}
	return yes > no
}

// at is the place of a node's mark, or -1.
func (m *second) at(node int) int {
	for i := range m.Marks {
		if m.Marks[i].Node == node {
			return i
		}
	}
	return -1
}

// sendTo sends to a node what a leader sends.
func (m *second) sendTo(p int) {
	at := m.at(p)
	if at < 0 {
		return
	}
	prev := m.Marks[at].Next - 1
	n := api.Note{From: m.Me, To: p, Term: m.Hard.Term, Commit: m.Commit}
	if prev < m.Hard.Log.Base {
		n.Kind, n.Index, n.LogTerm, n.Voters, n.Snap = 4, m.Hard.Log.Base, m.Hard.Log.BaseTerm, m.Hard.Voters, m.Hard.Snap
	} else {
		n.Kind, n.Index, n.LogTerm = 3, prev, max(m.term(prev), 0)
		for i := prev + 1; i <= m.end() && len(n.Entries) < 16; i++ {
			n.Entries = append(n.Entries, m.Hard.Log.Entries[i-m.Hard.Log.Base-1])
		}
	}
	m.out = append(m.out, n)
}

// sendAll sends to each of the others.
func (m *second) sendAll() {
	for _, p := range m.others() {
		m.sendTo(p)
	}
}

// commitRule is that of P12.6, with each index tried.
func (m *second) commitRule() {
	c := m.Commit
	for i := m.Commit + 1; i <= m.end(); i++ {
		have := func(voter int) bool {
			at := m.at(voter)
			return voter == m.Me || at >= 0 && m.Marks[at].Match >= i
		}
		if m.term(i) == m.Hard.Term && m.most(have) {
			c = i
		}
	}
	m.Commit = c
}

// becomeLeader is that of P12.3.
func (m *second) becomeLeader() {
	m.Role, m.Leader, m.Votes = 2, m.Me+1, nil
	m.Hard.Log.Entries = append(m.Hard.Log.Entries, nothing(m.Hard.Term))
	m.Marks = nil
	for _, p := range m.others() {
		m.Marks = append(m.Marks, api.Mark{Node: p, Next: m.end()})
	}
	m.commitRule()
	m.sendAll()
}

// tick is P12.3.
func (m *second) tick(timeout int) {
	if m.Role == 2 {
		m.sendAll()
		return
	}
	m.Left--
	if m.Left >= 1 {
		return
	}
	m.Left = max(1, timeout)
	if !slices.Contains(m.votersUpTo(m.end()), m.Me) || m.Hard.Term >= 1<<40 || m.end() >= 1<<40 {
		return
	}
	m.Hard.Term, m.Hard.Vote, m.Role, m.Leader, m.Votes, m.Marks = m.Hard.Term+1, m.Me+1, 1, 0, []int{m.Me}, nil
	if m.most(func(voter int) bool { return voter == m.Me }) {
		m.becomeLeader()
		return
	}
	for _, p := range m.others() {
		m.out = append(m.out, api.Note{Kind: 1, From: m.Me, To: p, Term: m.Hard.Term, Index: m.end(), LogTerm: m.term(m.end())})
	}
}

// back is a note to where one came from.
func (m *second) back(n api.Note, kind, index int, good bool) {
	m.out = append(m.out, api.Note{Kind: kind, From: m.Me, To: n.From, Term: m.Hard.Term, Index: index, Good: good})
}

// receive is P12.4, for a note that Check takes.
func (m *second) receive(n api.Note, timeout int) {
	if n.To != m.Me {
		return
	}
	if n.Term > m.Hard.Term {
		m.Hard.Term, m.Hard.Vote, m.Role, m.Leader, m.Votes, m.Marks = n.Term, 0, 0, 0, nil, nil
	}
	if n.Term < m.Hard.Term {
		if n.Kind == 1 {
			m.back(n, 2, 0, false)
		} else if n.Kind != 2 && n.Kind != 5 {
			m.back(n, 5, 0, false)
		}
		return
	}
	switch n.Kind {
	case 1:
		own := m.term(m.end())
		good := (m.Hard.Vote == 0 || m.Hard.Vote == n.From+1) && m.Role == 0 && (n.LogTerm > own || n.LogTerm == own && n.Index >= m.end())
		if good {
			m.Hard.Vote, m.Left = n.From+1, max(1, timeout)
		}
		m.back(n, 2, 0, good)
	case 2:
		if m.Role == 1 && n.Good && slices.Contains(m.votersUpTo(m.end()), n.From) {
			m.Votes = append(m.Votes, n.From)
			slices.Sort(m.Votes)
			m.Votes = slices.Compact(m.Votes)
			if m.most(func(voter int) bool { return slices.Contains(m.Votes, voter) }) {
				m.becomeLeader()
			}
		}
	case 3, 4:
		if m.Role == 2 {
			return
		}
		m.Role, m.Leader, m.Votes, m.Left = 0, n.From+1, nil, max(1, timeout)
		if n.Kind == 3 {
			m.entries(n)
		} else {
			m.snapshot(n)
		}
	case 5:
		if m.Role == 2 && m.at(n.From) >= 0 {
			m.answer(n)
		}
	}
}

// entries is P12.5 for an Append.
func (m *second) entries(n api.Note) {
	prev, term, list := n.Index, n.LogTerm, n.Entries
	for prev < m.Hard.Log.Base && len(list) > 0 {
		prev, list = prev+1, list[1:]
	}
	if n.Index < m.Hard.Log.Base {
		prev, term = m.Hard.Log.Base, m.Hard.Log.BaseTerm
	}
	if m.term(prev) != term {
		m.back(n, 5, max(m.Commit, min(m.end(), prev-1)), false)
		return
	}
	for k, entry := range list {
		i := prev + 1 + k
		if m.term(i) == entry.Term {
			continue
		}
		if i <= m.Commit {
			m.back(n, 5, m.Commit, false)
			return
		}
		m.Hard.Log.Entries = append(m.Hard.Log.Entries[:i-m.Hard.Log.Base-1:i-m.Hard.Log.Base-1], list[k:]...)
		break
	}
	m.Commit = max(m.Commit, min(n.Commit, prev+len(list)))
	m.back(n, 5, prev+len(list), true)
}

// snapshot is P12.5 for an Install.
func (m *second) snapshot(n api.Note) {
	if n.Index <= m.Commit {
		m.back(n, 5, m.Commit, true)
		return
	}
	var rest []api.Entry
	if m.term(n.Index) == n.LogTerm {
		rest = m.Hard.Log.Entries[n.Index-m.Hard.Log.Base:]
	}
	m.Hard.Log = api.Log{Base: n.Index, BaseTerm: n.LogTerm, Entries: rest}
	m.Hard.Voters, m.Hard.Snap, m.Commit = n.Voters, n.Snap, n.Index
	m.back(n, 5, n.Index, true)
}

// answer is P12.6.
func (m *second) answer(n api.Note) {
	mark := m.Marks[m.at(n.From)]
	if n.Good && n.Index > m.end() {
		return
	}
	if n.Good {
		mark.Match = max(mark.Match, n.Index)
		mark.Next = mark.Match + 1
		m.Marks[m.at(n.From)] = mark
		m.commitRule()
		return
	}
	next := n.Index + 1
	if mark.Next-1 < next {
		next = mark.Next - 1
	}
	if next < mark.Match+1 {
		next = mark.Match + 1
	}
	m.Marks[m.at(n.From)].Next = next
	m.sendTo(n.From)
}

// propose is that of P12.7.
func (m *second) propose(kind int, data string) (int, api.Errno) {
	if m.Role != 2 {
		return 0, 17
	}
	if len(data) > 8000 || m.end() == 1<<40 {
		return 0, 11
	}
	if kind != 0 && kind != 1 {
		return 0, 1
	}
	if kind == 1 {
		if err := m.voterChange(data); err != 0 {
			return 0, err
		}
	}
	m.Hard.Log.Entries = append(m.Hard.Log.Entries, api.Entry{Term: m.Hard.Term, Kind: kind, Data: data})
	if kind == 1 {
		var marks []api.Mark
		for _, p := range m.others() {
			if at := m.at(p); at >= 0 {
				marks = append(marks, m.Marks[at])
			} else {
				marks = append(marks, api.Mark{Node: p, Next: m.end()})
			}
		}
		m.Marks = marks
	}
	m.commitRule()
	m.sendAll()
	return m.end(), 0
}

// voterChange is what P12.7 asks for Voters.
func (m *second) voterChange(data string) api.Errno {
	now := m.votersUpTo(m.end())
	var list []int
	for i, b := range []byte(data) {
		if b > 63 || i > 0 && b <= data[i-1] {
			return 1
		}
		list = append(list, int(b))
	}
	differ := 0
	for node := range 64 {
		if slices.Contains(now, node) != slices.Contains(list, node) {
			differ++
		}
	}
	if len(list) == 0 || !slices.Contains(list, m.Me) || differ != 1 {
		return 1
	}
	for k, entry := range m.Hard.Log.Entries {
		if m.Hard.Log.Base+k+1 > m.Commit && entry.Kind == 1 {
			return 13
		}
	}
	if m.term(m.Commit) != m.Hard.Term {
		return 13
	}
	return 0
}

// compact is that of P12.7.
func (m *second) compact(upto int, snap string) api.Errno {
	if upto <= m.Hard.Log.Base || upto > m.Commit || upto > m.end() {
		return 1
	}
	if len(snap) > 50000 {
		return 11
	}
	m.Hard.Voters, m.Hard.Snap = m.votersUpTo(upto), snap
	m.Hard.Log = api.Log{Base: upto, BaseTerm: m.term(upto), Entries: m.Hard.Log.Entries[upto-m.Hard.Log.Base:]}
	return 0
}

// ticks does a Tick, tells of what differs from the second reading, and answers the node and its notes.
func ticks(t *testing.T, what string, r api.Raft, timeout int) (api.Raft, []api.Note) {
	t.Helper()
	m := of(r)
	m.tick(timeout)
	got, notes := Tick(r, timeout)
	isRaft(t, what+": the node after Tick", got, m.Raft)
	isNotes(t, what+": Tick", notes, m.out...)
	return got, notes
}

// receives does a Receive of a note that Check takes, as ticks does a Tick.
func receives(t *testing.T, what string, r api.Raft, n api.Note, timeout int) (api.Raft, []api.Note) {
	t.Helper()
	if Check(n) != api.OK {
		t.Errorf("%s: Check of %v is not OK", what, n)
	}
	m := of(r)
	m.receive(n, timeout)
	got, notes := Receive(r, n, timeout)
	isRaft(t, what+": the node after Receive", got, m.Raft)
	isNotes(t, what+": Receive", notes, m.out...)
	return got, notes
}

// proposes does a Propose, as ticks does a Tick.
func proposes(t *testing.T, what string, r api.Raft, kind int, data string) (api.Raft, []api.Note, int, api.Errno) {
	t.Helper()
	m := of(r)
	index, want := m.propose(kind, data)
	got, notes, i, err := Propose(r, kind, data)
	isRaft(t, what+": the node after Propose", got, m.Raft)
	isNotes(t, what+": Propose", notes, m.out...)
	counts(t, what+": the index", i, index)
	gives(t, what+": Propose", err, want)
	return got, notes, i, err
}

// compacts does a Compact, as ticks does a Tick.
func compacts(t *testing.T, what string, r api.Raft, upto int, snap string) (api.Raft, api.Errno) {
	t.Helper()
	m := of(r)
	want := m.compact(upto, snap)
	got, err := Compact(r, upto, snap)
	isRaft(t, what+": the node after Compact", got, m.Raft)
	gives(t, what+": Compact", err, want)
	return got, err
}

// P12.1

func TestNew(t *testing.T) {
	h := api.Hard{Term: 7, Vote: 3, Voters: []int{1, 2, 60}, Snap: "s", Log: logOf(3, 2, 4, 7)}
	for _, c := range []struct{ commit, want int }{
		{math.MinInt, 3}, {-1, 3}, {0, 3}, {2, 3}, {3, 3}, {4, 4}, {5, 5}, {6, 5}, {1 << 40, 5}, {math.MaxInt, 5},
	} {
		for _, me := range far() {
			want := api.Raft{Me: me, Commit: c.want, Left: 1, Hard: h}
			isRaft(t, "New", New(me, h, c.commit), want)
		}
	}
	isRaft(t, "New of nothing", New(0, api.Hard{}, 9), api.Raft{Left: 1})
	h.Log.Entries = nil
	isRaft(t, "New without entries", New(4, h, 9), api.Raft{Me: 4, Commit: 3, Left: 1, Hard: h})
	h = api.Hard{Term: -1, Vote: math.MaxInt, Voters: []int{70, -3, -3}, Log: logOf(-5, -2, 9, 1)}
	isRaft(t, "New of a wrong state", New(4, h, 9), api.Raft{Me: 4, Commit: -3, Left: 1, Hard: h})
}

func TestNewIsNewMemory(t *testing.T) {
	h := hardOf(7, logOf(3, 2, 4, 7), 1, 2)
	own := twin(api.Raft{Hard: h})
	r := New(1, own.Hard, 4)
	scribble(own)
	isRaft(t, "New, once its argument is changed", r, api.Raft{Me: 1, Commit: 4, Left: 1, Hard: h})
	own = twin(api.Raft{Hard: h})
	scribble(New(1, own.Hard, 4))
	if !sameHard(own.Hard, h) {
		t.Error("a change of what New answered changes its argument")
	}
}

// listsUpTo are all lists of these numbers with so many elements or less.
func listsUpTo(size int, numbers ...int) [][]int {
	out := [][]int{nil}
	from := 0
	for range size {
		to := len(out)
		for _, list := range out[from:to] {
			for _, n := range numbers {
				out = append(out, append(slices.Clone(list), n))
			}
		}
		from = to
	}
	return out
}

func TestMajority(t *testing.T) {
	for _, voters := range listsUpTo(4, 0, 1, 2, math.MinInt) {
		for _, who := range listsUpTo(4, 0, 1, 2, 5) {
			there, away := 0, 0
			for _, voter := range voters {
				if slices.Contains(who, voter) {
					there++
				} else {
					away++
				}
			}
			if got := Majority(voters, who); got != (there > away) {
				t.Fatalf("Majority of %v in %v is %v", who, voters, got)
			}
		}
	}
	for n := 1; n <= 64; n++ {
		voters, _ := plog.List(all64()[:n])
		for k := range n + 1 {
			if got := Majority(voters, voters[n-k:]); got != (2*k > n) {
				t.Errorf("Majority of %d in %d is %v", k, n, got)
			}
		}
	}
	if Majority(nil, nil) || Majority(nil, []int{0, 1}) || Majority([]int{}, []int{}) || Majority([]int{0}, nil) {
		t.Error("there is a majority of no voters, or by nobody")
	}
	if Majority([]int{0, 1, 2}, []int{0, 0, 0, 0, 7, 8}) {
		t.Error("a voter counts more than once, or others count")
	}
}

func TestMajorityOfMany(t *testing.T) {
	many := make([]int, 300001)
	for i := range many {
		many[i] = i * 3
	}
	if Majority(many, many[:150000]) || !Majority(many, many[150000:]) {
		t.Error("Majority of many is wrong")
	}
}

// P12.2

// kinds are right notes of each kind.
func kinds() []api.Note {
	return []api.Note{
		{Kind: 1, From: 1, To: 0, Term: 3, Index: 9, LogTerm: 2},
		{Kind: 2, From: 0, To: 63, Term: 3, Good: true},
		{Kind: 3, From: 63, To: 0, Term: 3, Index: 9, LogTerm: 2, Commit: 5, Entries: []api.Entry{e(2, "a"), voterEntry(3, "\x01"), nothing(3)}},
		{Kind: 4, From: 1, To: 2, Term: 3, Index: 9, LogTerm: 2, Commit: 9, Voters: []int{0, 5, 63}, Snap: "snap"},
		{Kind: 5, From: 2, To: 1, Term: 3, Index: 4},
	}
}

// checks tells of a note of which Check tells something else.
func checks(t *testing.T, what string, n api.Note, right bool) {
	t.Helper()
	want := api.ErrArg
	if right {
		want = api.OK
	}
	if got := Check(n); got != want {
		t.Errorf("%s: Check of %s is %d, want %d", what, shown(n), got, want)
	}
}

// within tells if a number is in a range.
func within(n, least, most int) bool {
	return n >= least && n <= most
}

// least is the least term that a note may have.
func least(n api.Note) int {
	term := max(n.LogTerm, 1)
	for _, entry := range n.Entries {
		term = max(term, entry.Term)
	}
	return term
}

func TestCheckOfNumbers(t *testing.T) {
	for _, n := range kinds() {
		checks(t, "a right note", n, true)
		for _, number := range far() {
			other := n
			other.From = number
			checks(t, "From", other, within(number, 0, 63) && number != n.To)
			other = n
			other.To = number
			checks(t, "To", other, within(number, 0, 63) && number != n.From)
			other = n
			other.From, other.To = number, number
			checks(t, "From and To", other, false)
			other = n
			other.Term = number
			checks(t, "Term", other, within(number, least(n), 1<<40))
			other = n
			other.Index = number
			checks(t, "Index", other, within(number, 0, 1<<40-len(n.Entries)))
			other = n
			other.LogTerm = number
			checks(t, "LogTerm", other, within(number, 0, 2) || number == 3 && len(n.Entries) == 0)
			other = n
			other.Commit = number
			checks(t, "Commit", other, within(number, 0, 1<<40))
		}
	}
}

func TestCheckOfKinds(t *testing.T) {
	for _, n := range kinds() {
		for _, kind := range far() {
			n.Kind = kind
			checks(t, "Kind", n, within(kind, 1, 5) && (kind != 4 || len(n.Voters) > 0))
		}
	}
	checks(t, "the zero note", api.Note{}, false)
	checks(t, "a note of term 0", api.Note{Kind: 1, To: 1}, false)
	checks(t, "the least note", api.Note{Kind: 1, To: 1, Term: 1}, true)
	checks(t, "the greatest note", api.Note{Kind: 5, From: 63, To: 62, Term: 1 << 40, Index: 1 << 40, LogTerm: 1 << 40, Commit: 1 << 40, Good: true}, true)
}

func TestCheckOfEntries(t *testing.T) {
	for _, n := range kinds() {
		n.Entries = nil
		for count := range 40 {
			n.Entries = slices.Repeat([]api.Entry{e(2, "")}, count)
			checks(t, "so many entries", n, count <= 16)
			n.Index = 1<<40 - 10
			checks(t, "so many entries behind a great index", n, count <= 10)
			n.Index = 9
		}
		n.Entries = slices.Repeat([]api.Entry{e(2, "")}, 100000)
		checks(t, "100000 entries", n, false)
	}
}

func TestCheckOfEachEntry(t *testing.T) {
	long := strings.Repeat("d", 8000)
	good := []api.Entry{e(2, ""), e(2, long), nothing(2), {Term: 2, Kind: 2, Data: long}, voterEntry(2, "\x3f"), voterEntry(2, all64()), voterEntry(2, "\x00\x02")}
	bad := []api.Entry{e(1, ""), e(3, ""), e(-1, ""), e(0, ""), e(4, ""), e(math.MaxInt, ""), e(math.MinInt, ""), e(2, long+"d"), {Term: 2, Kind: 3}, {Term: 2, Kind: -1}, {Term: 2, Kind: 257, Data: "\x01"}, voterEntry(2, ""), voterEntry(2, "\x40"), voterEntry(2, "\x01\x01"), voterEntry(2, "\x02\x01"), {Term: 2, Kind: 2, Data: long + "d"}}
	for _, n := range kinds() {
		n.LogTerm = 2
		for at := range 3 {
			n.Entries = []api.Entry{e(2, "x"), e(2, "y"), e(2, "z")}
			for _, entry := range good {
				n.Entries[at] = entry
				checks(t, "a right entry", n, true)
			}
			for _, entry := range bad {
				n.Entries[at] = entry
				checks(t, "a wrong entry", n, at == 2 && entry.Term == 3)
			}
		}
	}
}

func TestCheckOfTermsOfEntries(t *testing.T) {
	for _, n := range kinds() {
		for _, c := range []struct {
			term, logTerm int
			terms         []int
			right         bool
		}{
			{5, 2, []int{2, 3, 5}, true}, {5, 2, []int{2, 3, 6}, false}, {5, 2, []int{6}, false}, {5, 2, []int{1}, false},
			{5, 2, []int{2, 4, 3}, false}, {5, 5, []int{5}, true}, {5, 5, []int{4}, false}, {5, 0, []int{0, 0, 1}, true},
			{5, 6, nil, false}, {5, 5, nil, true}, {1 << 40, 1 << 40, []int{1 << 40}, true}, {1 << 40, 3, []int{1<<40 + 1}, false},
		} {
			n.Term, n.LogTerm, n.Entries = c.term, c.logTerm, logOf(0, 0, c.terms...).Entries
			checks(t, "the terms of entries", n, c.right)
		}
	}
}

func TestCheckOfVoters(t *testing.T) {
	all, _ := plog.List(all64())
	good := [][]int{{0}, {63}, {0, 1}, {1, 5, 62, 63}, all}
	bad := [][]int{{64}, {-1}, {256}, {257, 258}, {0, 0}, {1, 0}, {0, 1, 1}, {0, 2, 1}, {0, 1, 64}, {0, 257}, {math.MinInt}, {math.MaxInt}, {1 << 32}, append(slices.Clone(all), 64), append(slices.Clone(all), 0), make([]int, 100000)}
	for _, n := range kinds() {
		for _, voters := range good {
			n.Voters = voters
			checks(t, "right voters", n, true)
		}
		for _, voters := range bad {
			n.Voters = voters
			checks(t, "wrong voters", n, false)
		}
		for _, voters := range [][]int{nil, {}} {
			n.Voters = voters
			checks(t, "no voters", n, n.Kind != 4)
		}
	}
}

func TestCheckOfSnaps(t *testing.T) {
	for _, n := range kinds() {
		for _, size := range []int{0, 1, 49999, 50000, 50001, 65536, 1 << 20} {
			n.Snap = strings.Repeat("s", size)
			checks(t, "a snap", n, size <= 50000)
		}
	}
}

// P12.3

func TestTheChaptersExamples(t *testing.T) {
	r, notes := ticks(t, "alone", New(0, api.Hard{Voters: []int{0}}, 0), 3)
	isRaft(t, "a single node after Tick", r, api.Raft{Role: 2, Leader: 1, Commit: 1, Left: 3, Hard: api.Hard{Term: 1, Vote: 1, Voters: []int{0}, Log: api.Log{Entries: []api.Entry{nothing(1)}}}})
	isNotes(t, "a single node", notes)

	h := api.Hard{Voters: []int{0, 1, 2}}
	r, notes = ticks(t, "three", New(0, h, 0), 7)
	h.Term, h.Vote = 1, 1
	isRaft(t, "one of three after Tick", r, api.Raft{Role: 1, Left: 7, Hard: h, Votes: []int{0}})
	isNotes(t, "one of three", notes, api.Note{Kind: 1, From: 0, To: 1, Term: 1}, api.Note{Kind: 1, From: 0, To: 2, Term: 1})

	r, notes = receives(t, "a Vote", r, api.Note{Kind: 2, From: 1, To: 0, Term: 1, Good: true}, 5)
	h.Log.Entries = []api.Entry{nothing(1)}
	isRaft(t, "one of three after a Vote", r, api.Raft{Role: 2, Leader: 1, Left: 7, Hard: h, Marks: []api.Mark{{Node: 1, Next: 1}, {Node: 2, Next: 1}}})
	first := api.Note{Kind: 3, From: 0, To: 1, Term: 1, Entries: []api.Entry{nothing(1)}}
	other := first
	other.To = 2
	isNotes(t, "a Vote", notes, first, other)

	r, notes = receives(t, "an Answer", r, api.Note{Kind: 5, From: 2, To: 0, Term: 1, Good: true, Index: 1}, 5)
	isRaft(t, "one of three after an Answer", r, api.Raft{Role: 2, Leader: 1, Commit: 1, Left: 7, Hard: h, Marks: []api.Mark{{Node: 1, Next: 1}, {Node: 2, Next: 2, Match: 1}}})
	isNotes(t, "an Answer", notes)
}

func TestTickCountsDown(t *testing.T) {
	for _, role := range []int{0, 1, -1, 3, math.MinInt} {
		for _, left := range []int{2, 3, 7, math.MaxInt} {
			r := api.Raft{Role: role, Leader: 2, Left: left, Hard: hardOf(4, logOf(0, 0, 1), 0, 1), Votes: []int{0}}
			want := r
			want.Left = left - 1
			got, notes := Tick(r, 9)
			isRaft(t, "a node that waits", got, want)
			isNotes(t, "a node that waits", notes)
		}
	}
}

func TestTickAtTheEnd(t *testing.T) {
	for _, role := range []int{0, 1, -1, 3, math.MaxInt} {
		for _, left := range []int{1, 0, -1, math.MinInt + 1, math.MinInt} {
			for _, timeout := range far() {
				r := api.Raft{Me: 5, Role: role, Leader: 2, Commit: 3, Left: left, Hard: hardOf(4, logOf(2, 1, 3, 4), 2, 5, 9)}
				r.Hard.Vote, r.Votes, r.Marks = 3, []int{1, 2}, []api.Mark{{Node: 2, Next: 9, Match: 8}}
				got, notes := Tick(r, timeout)
				want := r
				want.Role, want.Leader, want.Votes, want.Marks = 1, 0, []int{5}, nil
				want.Hard.Term, want.Hard.Vote, want.Left = 5, 6, max(timeout, 1)
				isRaft(t, "a node that stands", got, want)
				isNotes(t, "a node that stands", notes, api.Note{Kind: 1, From: 5, To: 2, Term: 5, Index: 4, LogTerm: 4}, api.Note{Kind: 1, From: 5, To: 9, Term: 5, Index: 4, LogTerm: 4})
			}
		}
	}
}

func TestTickOfANodeThatMayNotStand(t *testing.T) {
	stay := func(what string, r api.Raft) {
		t.Helper()
		for _, timeout := range []int{-4, 0, 1, 6} {
			r.Role, r.Leader, r.Left = 1, 4, 1
			got, notes := Tick(r, timeout)
			want := r
			want.Left = max(timeout, 1)
			isRaft(t, what, got, want)
			isNotes(t, what, notes)
		}
	}
	stay("no voter", New(3, hardOf(4, logOf(0, 0, 1), 0, 1, 2), 0))
	stay("no voters", New(3, hardOf(4, logOf(0, 0, 1)), 0))
	stay("a voter no more", New(1, hardOf(4, api.Log{Entries: []api.Entry{voterEntry(1, "\x00\x02")}}, 0, 1, 2), 0))
	stay("the greatest term", New(1, hardOf(1<<40, logOf(0, 0, 1), 0, 1, 2), 0))
	stay("a greater term", New(1, hardOf(1<<40+1, logOf(0, 0, 1), 0, 1, 2), 0))
	stay("the greatest index", New(1, hardOf(4, logOf(1<<40-2, 0, 1, 1), 0, 1, 2), 0))
	stay("the greatest index as the base", New(1, hardOf(4, logOf(1<<40, 0), 0, 1, 2), 0))
	stay("a greater index", New(1, hardOf(4, logOf(1<<40, 0, 1), 0, 1, 2), 0))
	stay("the greatest index, alone", New(1, hardOf(4, logOf(1<<40-1, 0, 1), 1), 0))
}

func TestTickOfTheLastTermAndIndex(t *testing.T) {
	r, notes := ticks(t, "the last term", New(1, hardOf(1<<40-1, logOf(0, 0, 1), 0, 1, 2), 0), 1)
	counts(t, "the term", r.Hard.Term, 1<<40)
	counts(t, "how many are asked", len(notes), 2)
	r, _ = ticks(t, "the last index", New(1, hardOf(4, logOf(1<<40-2, 0, 1), 1), 0), 1)
	counts(t, "the last index", plog.Last(r.Hard.Log), 1<<40)
	counts(t, "the commit", r.Commit, 1<<40)
}

func TestTickByTheVotersOfTheLog(t *testing.T) {
	h := hardOf(4, api.Log{Base: 7, BaseTerm: 2, Entries: []api.Entry{voterEntry(3, "\x01"), voterEntry(4, "\x01\x05\x3f"), e(4, "x")}}, 0, 1)
	_, notes := ticks(t, "voters of the log", New(1, h, 0), 1)
	isNotes(t, "voters of the log", notes, api.Note{Kind: 1, From: 1, To: 5, Term: 5, Index: 10, LogTerm: 4}, api.Note{Kind: 1, From: 1, To: 63, Term: 5, Index: 10, LogTerm: 4})
	h = hardOf(4, api.Log{Base: 7, BaseTerm: 2, Entries: []api.Entry{voterEntry(3, "\x01\x02"), voterEntry(4, "\x01")}}, 0, 1)
	r, notes := ticks(t, "the log's only voter", New(1, h, 0), 6)
	isRaft(t, "the log's only voter", r, api.Raft{Me: 1, Role: 2, Leader: 2, Commit: 10, Left: 6, Hard: api.Hard{Term: 5, Vote: 2, Voters: []int{0, 1}, Snap: "snap", Log: plog.Add(h.Log, nothing(5))}})
	isNotes(t, "the log's only voter", notes)
}

func TestTickAsksInIncreasingOrder(t *testing.T) {
	r := New(4, hardOf(1, api.Log{}, 9, 4, 2, 7), 0)
	_, notes := Tick(r, 1)
	for i, to := range []int{2, 7, 9} {
		if len(notes) != 3 || notes[i].To != to {
			t.Fatalf("the notes are %v", notes)
		}
	}
	if !slices.Equal(r.Hard.Voters, []int{9, 4, 2, 7}) {
		t.Error("Tick changes its argument")
	}
}

// leaderOf is a leader of some nodes, whose log has these terms, in the term of the last one.
func leaderOf(voters []int, l api.Log, marks ...api.Mark) api.Raft {
	term, _ := plog.Term(l, plog.Last(l))
	h := hardOf(term, l, voters...)
	h.Vote = voters[0] + 1
	return api.Raft{Me: voters[0], Role: 2, Leader: voters[0] + 1, Commit: l.Base, Left: 3, Hard: h, Marks: marks}
}

// line is a log of one term with so many entries.
func line(base, term, count int) api.Log {
	return logOf(base, term, slices.Repeat([]int{term}, count)...)
}

func TestTickOfALeader(t *testing.T) {
	l := logOf(4, 2, 2, 3, 5)
	r := leaderOf([]int{1, 2, 3, 4, 5, 6, 7}, l, api.Mark{Node: 2, Next: 8, Match: 7}, api.Mark{Node: 3, Next: 7}, api.Mark{Node: 4, Next: 5}, api.Mark{Node: 5, Next: 4}, api.Mark{Node: 6, Next: 1}, api.Mark{Node: 7, Next: 6})
	r.Commit = 6
	got, notes := ticks(t, "a leader", r, 9)
	isRaft(t, "a leader after Tick", got, r)
	form := func(kind, to, index, term int) api.Note {
		return api.Note{Kind: kind, From: 1, To: to, Term: 5, Index: index, LogTerm: term, Commit: 6}
	}
	upTo := func(n api.Note, entries ...api.Entry) api.Note {
		n.Entries = entries
		return n
	}
	install := func(to int) api.Note {
		n := form(4, to, 4, 2)
		n.Voters, n.Snap = []int{1, 2, 3, 4, 5, 6, 7}, "snap"
		return n
	}
	isNotes(t, "a leader", notes, form(3, 2, 7, 5), upTo(form(3, 3, 6, 3), e(5, "3")), upTo(form(3, 4, 4, 2), l.Entries...), install(5), install(6), upTo(form(3, 7, 5, 2), l.Entries[1:]...))
}

func TestTickOfALeaderIsInTheOrderOfTheNodes(t *testing.T) {
	r := leaderOf([]int{3, 9, 1}, line(0, 1, 2), api.Mark{Node: 9, Next: 3, Match: 2}, api.Mark{Node: 1, Next: 2})
	_, notes := ticks(t, "a leader of an odd order", r, 1)
	if len(notes) != 2 || notes[0].To != 1 || notes[1].To != 9 {
		t.Errorf("the notes are %v", notes)
	}
}

func TestALeaderSendsABatch(t *testing.T) {
	for count := range 40 {
		l := line(5, 3, count)
		for next := 6; next <= 6+count; next++ {
			_, notes := ticks(t, "a batch", leaderOf([]int{0, 1}, l, api.Mark{Node: 1, Next: next}), 1)
			if n := notes[0]; len(n.Entries) != min(16, 6+count-next) || n.Index != next-1 || n.Kind != 3 {
				t.Errorf("a batch from %d on of %d entries is %v", next, count, n)
			}
		}
	}
}

func TestInstallHasTheVotersOfTheBase(t *testing.T) {
	l := api.Log{Base: 4, BaseTerm: 2, Entries: []api.Entry{voterEntry(2, "\x00\x01")}}
	r := leaderOf([]int{0, 1, 2}, l, api.Mark{Node: 1, Next: 4})
	_, notes := ticks(t, "an Install", r, 1)
	isNotes(t, "an Install", notes, api.Note{Kind: 4, From: 0, To: 1, Term: 2, Index: 4, LogTerm: 2, Commit: 4, Voters: []int{0, 1, 2}, Snap: "snap"})
}

// P12.4

// follower is one of three nodes, in term 4, that follows node 2 and voted for nobody.
func follower() api.Raft {
	r := New(0, hardOf(4, logOf(3, 1, 1, 2, 4), 0, 1, 2), 4)
	r.Leader, r.Left = 3, 2
	return r
}

// inRole is a node of this role with what it has then.
func inRole(role int) api.Raft {
	r := follower()
	r.Role = role
	switch role {
	case 1:
		r.Leader, r.Hard.Vote, r.Votes = 0, 1, []int{0}
	case 2:
		r.Leader, r.Hard.Vote, r.Marks = 1, 1, []api.Mark{{Node: 1, Next: 7}, {Node: 2, Next: 6, Match: 5}}
	}
	return r
}

// notesTo0 are right notes of each kind to node 0 from another one in a term.
func notesTo0(from, term int) []api.Note {
	return []api.Note{
		{Kind: 1, From: from, To: 0, Term: term, Index: 6, LogTerm: term},
		{Kind: 2, From: from, To: 0, Term: term, Good: true},
		{Kind: 2, From: from, To: 0, Term: term},
		{Kind: 3, From: from, To: 0, Term: term, Index: 5, LogTerm: 2, Commit: 6, Entries: []api.Entry{e(term, "new")}},
		{Kind: 4, From: from, To: 0, Term: term, Index: 9, LogTerm: 3, Commit: 9, Voters: []int{0, 2}, Snap: "other"},
		{Kind: 5, From: from, To: 0, Term: term, Good: true, Index: 6},
		{Kind: 5, From: from, To: 0, Term: term, Index: 3},
	}
}

func TestReceiveIgnores(t *testing.T) {
	for role := range 3 {
		r := inRole(role)
		for _, n := range notesTo0(1, 9) {
			for _, to := range []int{1, 2, 3, 63, -1, 64, math.MinInt} {
				n.To = to
				got, notes := Receive(r, n, 9)
				isRaft(t, "a note to another node", got, r)
				isNotes(t, "a note to another node", notes)
			}
		}
		for i, spoil := range []func(n *api.Note){
			func(n *api.Note) { n.Kind = 0 },
			func(n *api.Note) { n.Kind = 6 },
			func(n *api.Note) { n.From = 0 },
			func(n *api.Note) { n.From = 64 },
			func(n *api.Note) { n.From = -1 },
			func(n *api.Note) { n.Term = 1<<40 + 1 },
			func(n *api.Note) { n.Term = -1 },
			func(n *api.Note) { n.Index = -1 },
			func(n *api.Note) { n.LogTerm = 10 },
			func(n *api.Note) { n.Commit = 1<<40 + 1 },
			func(n *api.Note) { n.Entries = []api.Entry{e(10, "")} },
			func(n *api.Note) { n.Entries = slices.Repeat([]api.Entry{e(9, "")}, 17) },
			func(n *api.Note) { n.Voters = []int{2, 1} },
			func(n *api.Note) { n.Snap = strings.Repeat("s", 50001) },
		} {
			for _, n := range notesTo0(1, 9) {
				spoil(&n)
				got, notes := Receive(r, n, 9)
				what := "spoilt note " + strconv.Itoa(i)
				isRaft(t, what, got, r)
				isNotes(t, what, notes)
			}
		}
	}
	r := New(70, hardOf(4, api.Log{}, 0, 1), 0)
	got, notes := Receive(r, api.Note{Kind: 1, From: 1, To: 70, Term: 9}, 1)
	isRaft(t, "a node without a right number", got, r)
	isNotes(t, "a node without a right number", notes)
}

func TestReceiveOfAPastTerm(t *testing.T) {
	for role := range 3 {
		for term := 1; term <= 3; term++ {
			for _, n := range notesTo0(2, term) {
				n.LogTerm = min(n.LogTerm, term)
				r := inRole(role)
				got, notes := receives(t, "a past term", r, n, 9)
				isRaft(t, "a past term", got, r)
				switch n.Kind {
				case 1:
					isNotes(t, "a past Ask", notes, api.Note{Kind: 2, From: 0, To: 2, Term: 4})
				case 3, 4:
					isNotes(t, "a past Append or Install", notes, api.Note{Kind: 5, From: 0, To: 2, Term: 4})
				default:
					isNotes(t, "a past Vote or Answer", notes)
				}
			}
		}
	}
}

func TestReceiveOfAGreaterTerm(t *testing.T) {
	for role := range 3 {
		for _, vote := range []int{0, 1, 2, 3} {
			for _, n := range notesTo0(2, 5) {
				r := inRole(role)
				r.Hard.Vote = vote
				got, notes := receives(t, "a greater term", r, n, 9)
				counts(t, "the term", got.Hard.Term, 5)
				counts(t, "the role", got.Role, 0)
				want := r
				want.Role, want.Leader, want.Votes, want.Marks = 0, 0, nil, nil
				want.Hard.Term, want.Hard.Vote = 5, 0
				switch n.Kind {
				case 1:
					want.Hard.Vote, want.Left = 3, 9
					isRaft(t, "a greater Ask", got, want)
					isNotes(t, "a greater Ask", notes, api.Note{Kind: 2, From: 0, To: 2, Term: 5, Good: true})
				case 2, 5:
					isRaft(t, "a greater Vote or Answer", got, want)
					isNotes(t, "a greater Vote or Answer", notes)
				case 3:
					want.Leader, want.Left, want.Commit = 3, 9, 6
					want.Hard.Log.Entries = []api.Entry{e(1, "1"), e(2, "2"), e(5, "new")}
					isRaft(t, "a greater Append", got, want)
					isNotes(t, "a greater Append", notes, api.Note{Kind: 5, From: 0, To: 2, Term: 5, Good: true, Index: 6})
				}
			}
		}
	}
}

func TestReceiveOfAnAsk(t *testing.T) {
	for role := range 4 {
		for vote := range 4 {
			for from := 1; from < 4; from++ {
				for index := 4; index <= 8; index++ {
					for term := 2; term <= 4; term++ {
						r := inRole(role)
						r.Hard.Vote = vote
						r.Hard.Log = logOf(3, 1, 1, 2, 3)
						good := (vote == 0 || vote == from+1) && role == 0 && (term == 4 || term == 3 && index >= 6)
						want := r
						if good {
							want.Hard.Vote, want.Left = from+1, 8
						}
						got, notes := receives(t, "an Ask", r, api.Note{Kind: 1, From: from, To: 0, Term: 4, Index: index, LogTerm: term}, 8)
						isRaft(t, "a node that is asked", got, want)
						isNotes(t, "a node that is asked", notes, api.Note{Kind: 2, From: 0, To: from, Term: 4, Good: good})
					}
				}
			}
		}
	}
}

func TestAnAskOfANodeThatIsNoVoter(t *testing.T) {
	r, notes := receives(t, "an Ask", follower(), api.Note{Kind: 1, From: 50, To: 0, Term: 4, Index: 6, LogTerm: 4}, 8)
	counts(t, "the vote", r.Hard.Vote, 51)
	isNotes(t, "an Ask", notes, api.Note{Kind: 2, From: 0, To: 50, Term: 4, Good: true})
}

func TestTimeoutsOfReceive(t *testing.T) {
	ask := api.Note{Kind: 1, From: 1, To: 0, Term: 4, Index: 6, LogTerm: 4}
	bad := api.Note{Kind: 1, From: 1, To: 0, Term: 4, Index: 5, LogTerm: 4}
	for _, timeout := range far() {
		got, _ := receives(t, "an Ask", follower(), ask, timeout)
		counts(t, "Left after an Ask", got.Left, max(timeout, 1))
		got, _ = receives(t, "an Ask in vain", follower(), bad, timeout)
		counts(t, "Left after an Ask in vain", got.Left, 2)
		for _, n := range notesTo0(2, 4) {
			for role := range 3 {
				got, _ = receives(t, "a note", inRole(role), n, timeout)
				want := 2
				if role != 2 && (n.Kind == 3 || n.Kind == 4) || role == 0 && n.Kind == 1 {
					want = max(timeout, 1)
				}
				counts(t, "Left after a note", got.Left, want)
			}
		}
	}
}

// candidate is one of seven nodes, in term 4.
func candidate(votes ...int) api.Raft {
	h := hardOf(4, logOf(3, 1, 1, 2, 3), 0, 1, 2, 3, 4, 5, 6)
	h.Vote = 4
	return api.Raft{Me: 3, Role: 1, Commit: 4, Left: 6, Hard: h, Votes: votes}
}

// voteFrom is a good vote for node 3.
func voteFrom(from int) api.Note {
	return api.Note{Kind: 2, From: from, To: 3, Term: 4, Good: true}
}

func TestReceiveOfAVote(t *testing.T) {
	for from := range 7 {
		if from == 3 {
			continue
		}
		got, notes := receives(t, "a Vote", candidate(3), voteFrom(from), 9)
		isRaft(t, "a candidate after a Vote", got, candidate(min(from, 3), max(from, 3)))
		isNotes(t, "a Vote", notes)
		got, _ = receives(t, "a Vote once more", got, voteFrom(from), 9)
		isRaft(t, "a candidate after that Vote once more", got, candidate(min(from, 3), max(from, 3)))
	}
	got, _ := receives(t, "a Vote", candidate(1, 3), voteFrom(2), 9)
	isRaft(t, "a candidate with three votes", got, candidate(1, 2, 3))
	got, notes := receives(t, "the fourth Vote", got, voteFrom(0), 9)
	want := candidate()
	want.Role, want.Leader = 2, 4
	want.Hard.Log = plog.Add(want.Hard.Log, nothing(4))
	for _, node := range []int{0, 1, 2, 4, 5, 6} {
		want.Marks = append(want.Marks, api.Mark{Node: node, Next: 7})
	}
	isRaft(t, "a candidate with four votes", got, want)
	counts(t, "the notes of a leader of seven", len(notes), 6)
	isNotes(t, "the first note of a leader", notes[:1], api.Note{Kind: 3, From: 3, To: 0, Term: 4, Index: 6, LogTerm: 3, Commit: 4, Entries: []api.Entry{nothing(4)}})
}

func TestReceiveOfAVoteInVain(t *testing.T) {
	bad := voteFrom(1)
	bad.Good = false
	for _, n := range []api.Note{bad, voteFrom(7), voteFrom(63)} {
		got, notes := receives(t, "a Vote in vain", candidate(2, 3, 4), n, 9)
		isRaft(t, "a candidate after a Vote in vain", got, candidate(2, 3, 4))
		isNotes(t, "a Vote in vain", notes)
	}
	for _, role := range []int{0, 2, 3, -1} {
		r := candidate(2, 3, 4)
		r.Role = role
		got, notes := receives(t, "a Vote for no candidate", r, voteFrom(1), 9)
		isRaft(t, "a node that is no candidate", got, r)
		isNotes(t, "a Vote for no candidate", notes)
	}
}

func TestVotesOfTheVotersOfTheLog(t *testing.T) {
	r := candidate(3)
	r.Hard.Log.Entries[2] = voterEntry(3, "\x02\x03\x09")
	got, notes := receives(t, "a Vote of a voter no more", r, voteFrom(1), 9)
	isRaft(t, "a candidate", got, r)
	isNotes(t, "a Vote of a voter no more", notes)
	got, notes = receives(t, "a Vote of a voter of the log", r, voteFrom(9), 9)
	counts(t, "the role", got.Role, 2)
	counts(t, "the notes", len(notes), 2)
}

func TestReceiveOfAnAppendInEachRole(t *testing.T) {
	for _, n := range notesTo0(2, 4)[3:5] {
		r := inRole(2)
		got, notes := receives(t, "a leader", r, n, 9)
		isRaft(t, "a leader of the same term", got, r)
		isNotes(t, "a leader of the same term", notes)
		for _, role := range []int{0, 1, 3, -1} {
			r = inRole(role)
			r.Votes = []int{0, 2}
			got, notes = receives(t, "no leader", r, n, 9)
			counts(t, "the role", got.Role, 0)
			counts(t, "the leader", got.Leader, 3)
			counts(t, "the votes", len(got.Votes), 0)
			counts(t, "the vote", got.Hard.Vote, r.Hard.Vote)
			counts(t, "the notes", len(notes), 1)
			if !notes[0].Good {
				t.Errorf("the answer is %v", notes[0])
			}
		}
	}
}

// P12.5

// appends is an Append from node 2 of term 4.
func appends(prev, term, commit int, entries ...api.Entry) api.Note {
	return api.Note{Kind: 3, From: 2, To: 0, Term: 4, Index: prev, LogTerm: term, Commit: commit, Entries: entries}
}

// answers is an Answer of node 0 to node 2 in term 4.
func answers(good bool, index int) api.Note {
	return api.Note{Kind: 5, From: 0, To: 2, Term: 4, Good: good, Index: index}
}

// TestAppend has a log with Base 3 of term 1, entries of the terms 1, 2 and 4, and Commit 4.
func TestAppend(t *testing.T) {
	x, y := e(4, "x"), e(4, "y")
	for i, c := range []struct {
		n      api.Note
		good   bool
		index  int
		terms  []int
		commit int
	}{
		{appends(6, 4, 0), true, 6, []int{1, 2, 4}, 4},
		{appends(6, 4, 6), true, 6, []int{1, 2, 4}, 6},
		{appends(6, 4, 99), true, 6, []int{1, 2, 4}, 6},
		{appends(5, 2, 99), true, 5, []int{1, 2, 4}, 5},
		{appends(5, 2, 4), true, 5, []int{1, 2, 4}, 4},
		{appends(6, 4, 6, x, y), true, 8, []int{1, 2, 4, 4, 4}, 6},
		{appends(6, 4, 7, x, y), true, 8, []int{1, 2, 4, 4, 4}, 7},
		{appends(6, 4, 99, x, y), true, 8, []int{1, 2, 4, 4, 4}, 8},
		{appends(5, 2, 99, e(3, "x")), true, 6, []int{1, 2, 3}, 6},
		{appends(5, 2, 0, e(4, "x"), y), true, 7, []int{1, 2, 4, 4}, 4},
		{appends(4, 1, 0, e(3, "x")), true, 5, []int{1, 3}, 4},
		{appends(4, 1, 99, e(2, "x")), true, 5, []int{1, 2, 4}, 5},
		{appends(3, 1, 99, e(1, "x")), true, 4, []int{1, 2, 4}, 4},
		{appends(3, 1, 0), true, 3, []int{1, 2, 4}, 4},
		{appends(3, 1, 99, e(1, ""), e(2, ""), e(4, ""), x), true, 7, []int{1, 2, 4, 4}, 7},
		{appends(3, 1, 99, e(2, "")), false, 4, []int{1, 2, 4}, 4},
		{appends(3, 1, 99, e(1, ""), e(3, "")), true, 5, []int{1, 3}, 5},
		{appends(6, 3, 99, x), false, 5, []int{1, 2, 4}, 4},
		{appends(5, 1, 99, x), false, 4, []int{1, 2, 4}, 4},
		{appends(5, 3, 99, x), false, 4, []int{1, 2, 4}, 4},
		{appends(4, 2, 99, x), false, 4, []int{1, 2, 4}, 4},
		{appends(3, 0, 99, x), false, 4, []int{1, 2, 4}, 4},
		{appends(7, 4, 99, x), false, 6, []int{1, 2, 4}, 4},
		{appends(8, 4, 99, x), false, 6, []int{1, 2, 4}, 4},
		{appends(1<<40, 4, 99), false, 6, []int{1, 2, 4}, 4},
		{appends(2, 0, 99), true, 3, []int{1, 2, 4}, 4},
		{appends(0, 0, 99), true, 3, []int{1, 2, 4}, 4},
		{appends(2, 0, 99, e(4, "")), true, 3, []int{1, 2, 4}, 4},
		{appends(1, 0, 99, e(0, ""), e(4, "")), true, 3, []int{1, 2, 4}, 4},
		{appends(2, 0, 99, e(1, ""), e(1, ""), e(2, "")), true, 5, []int{1, 2, 4}, 5},
		{appends(2, 0, 99, e(1, ""), e(2, "")), false, 4, []int{1, 2, 4}, 4},
		{appends(0, 0, 5, e(1, ""), e(1, ""), e(1, ""), e(1, ""), e(3, ""), x, y), true, 7, []int{1, 3, 4, 4}, 5},
	} {
		r := follower()
		got, notes := receives(t, "an Append", r, c.n, 9)
		what := "Append " + strconv.Itoa(i)
		isNotes(t, what, notes, answers(c.good, c.index))
		counts(t, what+": Commit", got.Commit, c.commit)
		counts(t, what+": Left", got.Left, 9)
		var terms []int
		for _, entry := range got.Hard.Log.Entries {
			terms = append(terms, entry.Term)
		}
		if !slices.Equal(terms, c.terms) || got.Hard.Log.Base != 3 {
			t.Errorf("%s: the terms are %v, want %v", what, terms, c.terms)
		}
	}
}

// risings are all lists of rising terms from a term up to 3, with so many elements or less.
func risings(from, size int) [][]int {
	var out [][]int
	for _, list := range listsUpTo(size, 1, 2, 3) {
		if slices.IsSorted(append([]int{from}, list...)) {
			out = append(out, list)
		}
	}
	return out
}

func TestAllShortAppends(t *testing.T) {
	for _, baseTerm := range []int{0, 1, 2} {
		for _, own := range risings(baseTerm, 3) {
			for _, logTerm := range []int{0, 1, 2} {
				for _, terms := range risings(logTerm, 3) {
					for prev := range 6 {
						for commit := 2; commit <= 2+len(own); commit++ {
							r := New(0, hardOf(3, logOf(2, baseTerm, own...), 0, 1), commit)
							n := api.Note{Kind: 3, From: 1, To: 0, Term: 3, Index: prev, LogTerm: logTerm, Commit: (prev + commit*2) % 9}
							for i, term := range terms {
								n.Entries = append(n.Entries, e(term, "new"+strconv.Itoa(i)))
							}
							receives(t, "a short Append", r, n, 1)
						}
					}
				}
			}
		}
	}
}

// installs is an Install from node 2 of term 4.
func installs(index, term int) api.Note {
	return api.Note{Kind: 4, From: 2, To: 0, Term: 4, Index: index, LogTerm: term, Commit: 99, Voters: []int{0, 2, 9}, Snap: "other"}
}

// TestInstall has a log with Base 3 of term 1, entries of the terms 1, 2 and 4, and Commit 4.
func TestInstall(t *testing.T) {
	for i, c := range []struct {
		n     api.Note
		index int
		log   api.Log
	}{
		{installs(0, 0), 4, api.Log{}},
		{installs(3, 1), 4, api.Log{}},
		{installs(3, 3), 4, api.Log{}},
		{installs(4, 1), 4, api.Log{}},
		{installs(4, 3), 4, api.Log{}},
		{installs(5, 2), 5, api.Log{Base: 5, BaseTerm: 2, Entries: []api.Entry{e(4, "3")}}},
		{installs(5, 1), 5, logOf(5, 1)},
		{installs(5, 3), 5, logOf(5, 3)},
		{installs(6, 4), 6, logOf(6, 4)},
		{installs(6, 3), 6, logOf(6, 3)},
		{installs(7, 4), 7, logOf(7, 4)},
		{installs(1<<40, 4), 1 << 40, logOf(1<<40, 4)},
	} {
		r := follower()
		got, notes := receives(t, "an Install", r, c.n, 9)
		what := "Install " + strconv.Itoa(i)
		isNotes(t, what, notes, answers(true, c.index))
		want := r
		want.Left, want.Commit = 9, c.index
		if c.index > 4 {
			want.Hard.Log, want.Hard.Voters, want.Hard.Snap = c.log, []int{0, 2, 9}, "other"
		}
		isRaft(t, what, got, want)
	}
}

// P12.6

func TestGoodAnswers(t *testing.T) {
	for match := 0; match <= 7; match++ {
		for index := 0; index <= 9; index++ {
			r := leaderOf([]int{0, 1, 2, 3, 4}, line(2, 3, 5), api.Mark{Node: 1, Next: 5}, api.Mark{Node: 2, Next: 3, Match: match}, api.Mark{Node: 3, Next: 1}, api.Mark{Node: 4, Next: 1})
			got, notes := receives(t, "a Good Answer", r, api.Note{Kind: 5, From: 2, To: 0, Term: 3, Good: true, Index: index}, 9)
			want := twin(r)
			if index <= 7 {
				want.Marks[1] = api.Mark{Node: 2, Next: max(match, index) + 1, Match: max(match, index)}
			}
			isRaft(t, "a leader after a Good Answer", got, want)
			isNotes(t, "a Good Answer", notes)
		}
	}
}

func TestOtherAnswers(t *testing.T) {
	for next := 1; next <= 8; next++ {
		for match := 0; match < next; match++ {
			for _, index := range []int{0, 1, 2, 3, 4, 5, 6, 7, 8, 9, 1 << 40} {
				r := leaderOf([]int{0, 1, 2}, line(3, 3, 4), api.Mark{Node: 1, Next: 5}, api.Mark{Node: 2, Next: next, Match: match})
				got, notes := receives(t, "an Answer", r, api.Note{Kind: 5, From: 2, To: 0, Term: 3, Index: index}, 9)
				want := twin(r)
				want.Marks[1].Next = max(match+1, min(next-1, index+1))
				isRaft(t, "a leader after an Answer", got, want)
				if len(notes) != 1 || notes[0].To != 2 || (notes[0].Kind == 4) != (want.Marks[1].Next <= 3) {
					t.Errorf("the notes are %v", notes)
				}
			}
		}
	}
}

func TestAnswersInVain(t *testing.T) {
	for _, good := range []bool{true, false} {
		for _, from := range []int{3, 63} {
			r := leaderOf([]int{0, 1, 2}, line(3, 3, 4), api.Mark{Node: 1, Next: 5}, api.Mark{Node: 2, Next: 5})
			got, notes := receives(t, "an Answer of a node without a mark", r, api.Note{Kind: 5, From: from, To: 0, Term: 3, Index: 4, Good: good}, 9)
			isRaft(t, "a leader", got, r)
			isNotes(t, "an Answer of a node without a mark", notes)
		}
		for _, role := range []int{0, 1, 3, -1} {
			r := leaderOf([]int{0, 1, 2}, line(3, 3, 4), api.Mark{Node: 1, Next: 5}, api.Mark{Node: 2, Next: 5})
			r.Role = role
			got, notes := receives(t, "an Answer to no leader", r, api.Note{Kind: 5, From: 1, To: 0, Term: 3, Index: 4, Good: good}, 9)
			isRaft(t, "no leader", got, r)
			isNotes(t, "an Answer to no leader", notes)
		}
	}
}

func TestCommitRule(t *testing.T) {
	for _, c := range []struct {
		terms   []int
		term    int
		commit  int
		matches []int
		want    int
	}{
		{[]int{1, 1, 1}, 1, 0, []int{0, 0}, 0},
		{[]int{1, 1, 1}, 1, 0, []int{2, 0}, 2},
		{[]int{1, 1, 1}, 1, 0, []int{0, 3}, 3},
		{[]int{1, 1, 1}, 1, 0, []int{1, 3}, 3},
		{[]int{1, 1, 1}, 1, 2, []int{1, 1}, 2},
		{[]int{1, 1, 1}, 1, 0, []int{1, 2, 3}, 2},
		{[]int{1, 1, 1}, 1, 0, []int{3, 0, 0}, 0},
		{[]int{1, 1, 1}, 1, 0, []int{3, 1, 0}, 1},
		{[]int{1, 1, 1}, 1, 0, []int{3, 3, 0, 0}, 3},
		{[]int{1, 1, 1}, 1, 0, []int{0, 1, 2, 3}, 2},
		{[]int{1, 1, 1}, 2, 0, []int{3, 3}, 0},
		{[]int{1, 1, 2}, 2, 0, []int{2, 2}, 0},
		{[]int{1, 1, 2}, 2, 0, []int{2, 3}, 3},
		{[]int{1, 2, 2}, 2, 0, []int{2, 2}, 2},
		{[]int{1, 2, 3}, 2, 0, []int{3, 3}, 2},
		{[]int{2, 1, 1}, 2, 0, []int{3, 3}, 1},
		{[]int{2, 1, 1}, 2, 1, []int{3, 3}, 1},
		{[]int{1, 1, 1}, 1, 0, nil, 3},
		{[]int{1, 1, 1}, 1, 0, []int{9, 9}, 3},
		{[]int{1, 1, 1}, 1, 0, []int{9, 1}, 3},
	} {
		r := api.Raft{Role: 2, Leader: 1, Commit: c.commit, Hard: hardOf(c.term, logOf(0, 0, c.terms...), 0)}
		for i, match := range c.matches {
			r.Hard.Voters = append(r.Hard.Voters, i+1)
			r.Marks = append(r.Marks, api.Mark{Node: i + 1, Next: 1, Match: match})
		}
		if len(c.matches) == 0 { // the rule is applied at an Answer, so there is another node, which is no voter
			r.Marks = []api.Mark{{Node: 1, Next: 1}}
		}
		got, _ := receives(t, "the commit rule", r, api.Note{Kind: 5, From: 1, To: 0, Term: c.term, Good: true}, 1)
		if got.Commit != c.want {
			t.Errorf("the commit of %v is %d", c, got.Commit)
		}
	}
}

func TestCommitRuleOfAllSmallLeaders(t *testing.T) {
	r := rand.New(rand.NewSource(1))
	for _, terms := range listsUpTo(4, 1, 2) {
		for _, matches := range listsUpTo(4, 0, 1, 2, 3, 4) {
			if len(matches) == 0 {
				continue
			}
			leader := api.Raft{Role: 2, Leader: 1, Hard: hardOf(2, logOf(r.Intn(2), 1, terms...), 0)}
			leader.Commit = leader.Hard.Log.Base + r.Intn(len(terms)+1)
			for i, match := range matches {
				leader.Hard.Voters = append(leader.Hard.Voters, i+1)
				leader.Marks = append(leader.Marks, api.Mark{Node: i + 1, Next: 1, Match: match})
			}
			if r.Intn(4) == 0 {
				leader.Hard.Voters = leader.Hard.Voters[r.Intn(2):]
			}
			receives(t, "a small leader", leader, api.Note{Kind: 5, From: 1, To: 0, Term: 2, Good: true, Index: r.Intn(4)}, 1)
		}
	}
}

func TestALeaderThatIsNoVoterDoesNotCount(t *testing.T) {
	r := leaderOf([]int{0, 1, 2, 3}, line(0, 1, 3), api.Mark{Node: 1, Next: 1}, api.Mark{Node: 2, Next: 1}, api.Mark{Node: 3, Next: 1})
	r.Hard.Voters = []int{1, 2, 3}
	got, _ := receives(t, "a first Answer", r, api.Note{Kind: 5, From: 1, To: 0, Term: 1, Good: true, Index: 3}, 1)
	counts(t, "Commit after a first Answer", got.Commit, 0)
	got, _ = receives(t, "a second Answer", got, api.Note{Kind: 5, From: 2, To: 0, Term: 1, Good: true, Index: 2}, 1)
	counts(t, "Commit after a second Answer", got.Commit, 2)
}

// P12.7

// leader is one of three nodes, in term 3, whose own first entry is committed.
func leader() api.Raft {
	l := api.Log{Base: 3, BaseTerm: 1, Entries: []api.Entry{e(2, "a"), nothing(3), e(3, "b")}}
	r := leaderOf([]int{1, 4, 6}, l, api.Mark{Node: 4, Next: 6, Match: 5}, api.Mark{Node: 6, Next: 3, Match: 1})
	r.Commit = 5
	return r
}

func TestProposeOfACommand(t *testing.T) {
	for _, data := range []string{"", "x", "\x00\xff", strings.Repeat("d", 8000)} {
		r := leader()
		got, notes, index, err := proposes(t, "a Command", r, 0, data)
		gives(t, "Propose", err, api.OK)
		counts(t, "the index", index, 7)
		want := r
		want.Hard.Log = plog.Add(r.Hard.Log, e(3, data))
		isRaft(t, "a leader after a Command", got, want)
		isNotes(t, "a Command", notes,
			api.Note{Kind: 3, From: 1, To: 4, Term: 3, Index: 5, LogTerm: 3, Commit: 5, Entries: []api.Entry{e(3, "b"), e(3, data)}},
			api.Note{Kind: 4, From: 1, To: 6, Term: 3, Index: 3, LogTerm: 1, Commit: 5, Voters: []int{1, 4, 6}, Snap: "snap"})
	}
	alone := leaderOf([]int{5}, line(0, 1, 2))
	got, notes, index, err := proposes(t, "a Command, alone", alone, 0, "x")
	gives(t, "Propose, alone", err, api.OK)
	counts(t, "the index, alone", index, 3)
	counts(t, "Commit, alone", got.Commit, 3)
	isNotes(t, "a Command, alone", notes)
}

// refuses tells of a Propose that does not return this error and the unchanged node.
func refuses(t *testing.T, what string, r api.Raft, kind int, data string, want api.Errno) {
	t.Helper()
	proposes(t, what, r, kind, data)
	got, notes, index, err := Propose(r, kind, data)
	gives(t, what, err, want)
	isRaft(t, what, got, r)
	if len(notes) > 0 || index != 0 {
		t.Errorf("%s: Propose answers %v, %d", what, notes, index)
	}
}

func TestProposeOfWhatIsWrong(t *testing.T) {
	long := strings.Repeat("d", 8001)
	right := "\x01\x04\x06\x07"
	for _, role := range []int{0, 1, 3, -1, math.MinInt} {
		r := leader()
		r.Role = role
		for kind := range 4 {
			refuses(t, "no leader", r, kind, "x", api.ErrLead)
			refuses(t, "no leader, and long data", r, kind, long, api.ErrLead)
		}
		refuses(t, "no leader, and voters", r, 1, right, api.ErrLead)
	}
	full := leader()
	full.Hard.Log.Base, full.Commit = 1<<40-3, 1<<40-1
	for _, kind := range far() {
		refuses(t, "long data", leader(), kind, long, api.ErrSize)
		refuses(t, "the greatest index", full, kind, right, api.ErrSize)
		if kind != 0 && kind != 1 {
			refuses(t, "another kind", leader(), kind, right, api.ErrArg)
			refuses(t, "another kind", leader(), kind, "", api.ErrArg)
		}
	}
	full.Hard.Log.Base--
	_, _, index, err := proposes(t, "the last index but one", full, 0, "x")
	gives(t, "the last index but one", err, api.OK)
	counts(t, "the last index", index, 1<<40)
}

func TestProposeOfWrongVoters(t *testing.T) {
	for _, data := range []string{
		"", "\x01\x04\x06", "\x01", "\x04\x06", "\x01\x04\x06\x40", "\x01\x04\x06\x06", "\x01\x06\x04", "\x01\x04\x07\x06", "\x04\x06\x07", "\x00\x04\x06",
		"\x01\x04\x07", "\x01\x04\x06\x07\x08", "\x00\x01\x04\x06\x07", "\x01\x07", "\x01\x04\x05", "\x00\x01\x02\x04", "\x01\x04\x06\xff", all64(), "\x01\x01\x04", "x",
	} {
		refuses(t, "wrong voters", leader(), 1, data, api.ErrArg)
		r := leader()
		r.Hard.Term++ // so that ErrState would be returned as well
		refuses(t, "wrong voters in another term", r, 1, data, api.ErrArg)
	}
}

func TestProposeOfVoters(t *testing.T) {
	for _, c := range []struct {
		data  string
		marks []api.Mark
		to    []int
	}{
		{"\x01\x04\x06\x07", []api.Mark{{Node: 4, Next: 6, Match: 5}, {Node: 6, Next: 3, Match: 1}, {Node: 7, Next: 7}}, []int{4, 6, 7}},
		{"\x00\x01\x04\x06", []api.Mark{{Node: 0, Next: 7}, {Node: 4, Next: 6, Match: 5}, {Node: 6, Next: 3, Match: 1}}, []int{0, 4, 6}},
		{"\x01\x04\x05\x06", []api.Mark{{Node: 4, Next: 6, Match: 5}, {Node: 5, Next: 7}, {Node: 6, Next: 3, Match: 1}}, []int{4, 5, 6}},
		{"\x01\x04\x06\x3f", []api.Mark{{Node: 4, Next: 6, Match: 5}, {Node: 6, Next: 3, Match: 1}, {Node: 63, Next: 7}}, []int{4, 6, 63}},
		{"\x01\x04", []api.Mark{{Node: 4, Next: 6, Match: 5}}, []int{4}},
		{"\x01\x06", []api.Mark{{Node: 6, Next: 3, Match: 1}}, []int{6}},
	} {
		r := leader()
		got, notes, index, err := proposes(t, "Voters", r, 1, c.data)
		gives(t, "Propose", err, api.OK)
		counts(t, "the index", index, 7)
		want := r
		want.Hard.Log = plog.Add(r.Hard.Log, voterEntry(3, c.data))
		want.Marks = c.marks
		isRaft(t, "a leader after Voters", got, want)
		var to []int
		for _, n := range notes {
			to = append(to, n.To)
		}
		if !slices.Equal(to, c.to) {
			t.Errorf("the notes go to %v, want %v", to, c.to)
		}
	}
}

func TestVotersThatCommitAtOnce(t *testing.T) {
	r := leaderOf([]int{0, 1}, line(0, 1, 3), api.Mark{Node: 1, Next: 2, Match: 1})
	r.Commit = 1
	got, notes, index, err := proposes(t, "the last but one goes", r, 1, "\x00")
	gives(t, "Propose", err, api.OK)
	counts(t, "the index", index, 4)
	counts(t, "Commit", got.Commit, 4)
	counts(t, "the marks", len(got.Marks), 0)
	isNotes(t, "the last but one goes", notes)
}

func TestVotersThatHaveToWait(t *testing.T) {
	next := "\x01\x04\x06\x07"
	r := leader()
	r.Commit = 4 // of term 2
	refuses(t, "the commit of an older term", r, 1, next, api.ErrState)
	r.Commit = 3 // the base, of term 1
	refuses(t, "the base's term", r, 1, next, api.ErrState)
	r.Hard.Log.BaseTerm = 3
	_, _, _, err := proposes(t, "the base, of the same term", r, 1, next)
	gives(t, "the base, of the same term", err, api.OK)
	r = leader()
	r.Commit = 2
	refuses(t, "a commit ahead of the base", r, 1, next, api.ErrState)
	r.Commit = 7
	refuses(t, "a commit behind the end", r, 1, next, api.ErrState)

	r, _, _, _ = Propose(leader(), 1, next)
	refuses(t, "other voters on their way", r, 1, "\x01\x04\x06", api.ErrState)
	refuses(t, "more voters while others are on their way", r, 1, next+"\x08", api.ErrState)
	refuses(t, "wrong voters while others are on their way", r, 1, next, api.ErrArg)
	got, _, _, err := proposes(t, "a Command while voters are on their way", r, 0, "x")
	gives(t, "a Command while voters are on their way", err, api.OK)
	refuses(t, "other voters behind a Command", got, 1, "\x01\x04\x06", api.ErrState)
	r, _ = Receive(r, api.Note{Kind: 5, From: 4, To: 1, Term: 3, Good: true, Index: 7}, 1)
	refuses(t, "two of four hold the voters", r, 1, "\x01\x04\x06", api.ErrState)
	r, _ = Receive(r, api.Note{Kind: 5, From: 7, To: 1, Term: 3, Good: true, Index: 7}, 1)
	counts(t, "Commit", r.Commit, 7)
	r, _, _, err = proposes(t, "back to three", r, 1, "\x01\x04\x06")
	gives(t, "back to three", err, api.OK)
	counts(t, "the marks", len(r.Marks), 2)
}

func TestCompact(t *testing.T) {
	l := api.Log{Base: 3, BaseTerm: 1, Entries: []api.Entry{e(2, "a"), voterEntry(2, "\x01\x04"), e(3, "b"), voterEntry(3, "\x01\x04\x06"), e(3, "c"), voterEntry(3, "\x01\x06"), e(3, "d")}}
	r := leaderOf([]int{1, 7}, l, api.Mark{Node: 6, Next: 4})
	r.Commit = 8
	for _, c := range []struct {
		upto, term int
		voters     []int
	}{
		{4, 2, []int{1, 7}}, {5, 2, []int{1, 4}}, {6, 3, []int{1, 4}}, {7, 3, []int{1, 4, 6}}, {8, 3, []int{1, 4, 6}},
	} {
		for _, snap := range []string{"", "new", strings.Repeat("s", 50000)} {
			got, err := compacts(t, "Compact", r, c.upto, snap)
			gives(t, "Compact", err, api.OK)
			want := r
			want.Hard.Voters, want.Hard.Snap = c.voters, snap
			want.Hard.Log = api.Log{Base: c.upto, BaseTerm: c.term, Entries: l.Entries[c.upto-3:]}
			isRaft(t, "a node after Compact", got, want)
		}
		got, err := compacts(t, "Compact with a long snap", r, c.upto, strings.Repeat("s", 50001))
		gives(t, "Compact with a long snap", err, api.ErrSize)
		isRaft(t, "a node after Compact with a long snap", got, r)
	}
	for _, upto := range []int{math.MinInt, -1, 0, 2, 3, 9, 10, 11, 1 << 40, math.MaxInt} {
		for _, snap := range []string{"new", strings.Repeat("s", 50001)} {
			got, err := compacts(t, "Compact elsewhere", r, upto, snap)
			gives(t, "Compact elsewhere", err, api.ErrArg)
			isRaft(t, "a node after Compact elsewhere", got, r)
		}
	}
	for _, role := range []int{0, 1, -4} {
		r.Role = role
		got, err := compacts(t, "Compact in another role", r, 8, "new")
		gives(t, "Compact in another role", err, api.OK)
		counts(t, "the role", got.Role, role)
	}
}

func TestCompactOfNothing(t *testing.T) {
	r := New(0, hardOf(1, logOf(3, 1), 0), 9)
	for _, upto := range far() {
		got, err := Compact(r, upto, "new")
		gives(t, "Compact without entries", err, api.ErrArg)
		isRaft(t, "a node without entries", got, r)
	}
	r = New(0, hardOf(1, logOf(3, 1, 1), 0), 9)
	r.Commit = 9 // as no node has it
	got, err := Compact(r, 5, "new")
	gives(t, "Compact behind the end", err, api.ErrArg)
	isRaft(t, "a node whose commit is behind its end", got, r)
}

// All events, by the second reading

// anyVoters are some of the nodes 0 to 4.
func anyVoters(r *rand.Rand) []int {
	var out []int
	for node := range 5 {
		if r.Intn(5) < 3 {
			out = append(out, node)
		}
	}
	return out
}

// anyEntries are a few entries whose terms rise from one.
func anyEntries(r *rand.Rand, term, most int) []api.Entry {
	var out []api.Entry
	for i := range r.Intn(most + 1) {
		term += r.Intn(4) / 3
		entry := e(term, strconv.Itoa(i))
		switch voters := anyVoters(r); r.Intn(8) {
		case 0:
			entry = nothing(term)
		case 1:
			if len(voters) > 0 {
				entry = voterEntry(term, plog.Data(voters))
			}
		}
		out = append(out, entry)
	}
	return out
}

// anyNode is a node whose lists fit together more or less.
func anyNode(r *rand.Rand) api.Raft {
	l := api.Log{Base: r.Intn(4), BaseTerm: r.Intn(3)}
	l.Entries = anyEntries(r, l.BaseTerm, 6)
	term, _ := plog.Term(l, plog.Last(l))
	h := api.Hard{Term: term + r.Intn(3), Vote: r.Intn(6), Voters: anyVoters(r), Snap: "snap"[:r.Intn(5)], Log: l}
	out := api.Raft{Me: r.Intn(5), Role: r.Intn(3), Leader: r.Intn(6), Commit: l.Base + r.Intn(len(l.Entries)+1), Left: r.Intn(4) - 1, Hard: h}
	if r.Intn(20) == 0 {
		out.Commit = r.Intn(10)
	}
	if out.Role == 2 && r.Intn(2) == 0 { // with entries of its own term
		out.Hard.Term, out.Commit = term, l.Base
	}
	if out.Role == 1 {
		out.Votes = anyVoters(r)
	}
	if out.Role == 2 || r.Intn(10) == 0 { // others have no marks, but may be given some
		for _, node := range anyVoters(r) {
			match := r.Intn(plog.Last(l) + 2)
			out.Marks = append(out.Marks, api.Mark{Node: node, Next: match + 1 + r.Intn(3) - r.Intn(2), Match: match})
		}
	}
	return out
}

// anyNote is a note to a node, from another one, that Check takes.
func anyNote(r *rand.Rand, to api.Raft) api.Note {
	n := api.Note{Kind: 1 + r.Intn(5), From: r.Intn(6), To: to.Me, Index: r.Intn(11), LogTerm: r.Intn(5), Commit: r.Intn(12), Good: r.Intn(3) > 0}
	if len(to.Marks) > 0 && r.Intn(2) == 0 {
		n.Kind, n.From, n.LogTerm = 5, to.Marks[r.Intn(len(to.Marks))].Node, 0
	}
	if own, ok := plog.Term(to.Hard.Log, n.Index); ok && r.Intn(3) > 0 {
		n.LogTerm = own
	}
	if n.From == n.To {
		n.From = 7
	}
	if n.Kind == 3 || r.Intn(20) == 0 {
		n.Entries = anyEntries(r, n.LogTerm, 6)
	}
	if n.Kind == 4 || r.Intn(20) == 0 {
		n.Voters, n.Snap = append([]int{}, anyVoters(r)...), "other"
		n.Voters = append(n.Voters, 9)
	}
	n.Term = max(least(n), to.Hard.Term)
	if r.Intn(3) == 0 {
		n.Term = least(n) + r.Intn(3)
	}
	return n
}

// anyProposal is the data of a list of voters that may come next, or nearly so.
func anyProposal(r *rand.Rand, node api.Raft) string {
	data := plog.Data(plog.Now(node.Hard))
	one := string([]byte{byte(r.Intn(6))})
	if strings.Contains(data, one) {
		data = strings.ReplaceAll(data, one, "")
	} else {
		data += one
	}
	b := []byte(data)
	if r.Intn(6) > 0 {
		slices.Sort(b)
	}
	return string(b)
}

func TestAnyEvents(t *testing.T) {
	r := rand.New(rand.NewSource(2))
	done := map[string]int{}
	for range 200000 {
		node := anyNode(r)
		switch r.Intn(8) {
		case 0:
			got, _ := ticks(t, "any Tick", node, r.Intn(5)-1)
			if got.Role != node.Role {
				done["Tick"]++
			}
		case 1:
			node.Role = 2
			if _, _, _, err := proposes(t, "any Propose", node, r.Intn(2), anyProposal(r, node)); err == api.OK {
				done["Propose"]++
			}
		case 2:
			if _, err := compacts(t, "any Compact", node, r.Intn(10), "new"); err == api.OK {
				done["Compact"]++
			}
		default:
			n := anyNote(r, node)
			got, notes := receives(t, "any Receive", node, n, r.Intn(5)-1)
			if got.Role == 2 && node.Role != 2 {
				done["lead"]++
			}
			if got.Commit > node.Commit {
				done["commit"+strconv.Itoa(n.Kind)]++
			}
			if len(notes) > 0 && !notes[0].Good && n.Kind == 3 {
				done["refuse"]++
			}
		}
		if t.Failed() {
			return
		}
	}
	for _, what := range []string{"Tick", "Propose", "Compact", "lead", "commit3", "commit4", "commit5", "refuse"} {
		if done[what] < 500 {
			t.Errorf("%s happened %d times only", what, done[what])
		}
	}
}

// P1, R3, R4

func TestArgumentsAndResultsAreApart(t *testing.T) {
	r := rand.New(rand.NewSource(4))
	for range 20000 {
		node := anyNode(r)
		n := anyNote(r, node)
		kind, data, upto := r.Intn(2), anyProposal(r, node), r.Intn(9)
		for _, call := range []func(r api.Raft, n api.Note) (api.Raft, []api.Note){
			func(r api.Raft, n api.Note) (api.Raft, []api.Note) { return Tick(r, 3) },
			func(r api.Raft, n api.Note) (api.Raft, []api.Note) { return Receive(r, n, 3) },
			func(r api.Raft, n api.Note) (api.Raft, []api.Note) {
				out, notes, _, _ := Propose(r, kind, data)
				return out, notes
			},
			func(r api.Raft, n api.Note) (api.Raft, []api.Note) {
				out, _ := Compact(r, upto, "new")
				return out, nil
			},
		} {
			own, note := twin(node), twinNote(n)
			got, notes := call(own, note)
			isRaft(t, "an argument", own, node)
			isNotes(t, "an argument", []api.Note{note}, n)
			want, wanted := twin(got), []api.Note{}
			for _, one := range notes {
				wanted = append(wanted, twinNote(one))
			}
			scribble(own)
			scribbleNotes([]api.Note{note})
			isRaft(t, "a result, once the arguments are changed", got, want)
			isNotes(t, "a result, once the arguments are changed", notes, wanted...)
			scribble(got)
			isNotes(t, "the notes, once the node is changed", notes, wanted...)
			for i := range notes {
				scribbleNotes(notes[:i+1])
				isNotes(t, "the notes, once others are changed", notes[i+1:], wanted[i+1:]...)
			}
			again, _ := call(twin(node), twinNote(n))
			isRaft(t, "the same call once more", again, want)
		}
		if t.Failed() {
			return
		}
	}
}

func TestMajorityKeepsItsArguments(t *testing.T) {
	voters, who := []int{3, 1, 2}, []int{2, 2, 1}
	Majority(voters, who)
	if !slices.Equal(voters, []int{3, 1, 2}) || !slices.Equal(who, []int{2, 2, 1}) {
		t.Error("Majority changes its arguments")
	}
}

// oddNodes are nodes with a number in all places.
func oddNodes(n int) []api.Raft {
	odd := []api.Entry{{}, {Term: n, Kind: math.MaxInt}, voterEntry(n, "\xff"), voterEntry(math.MaxInt, "\x00\x01"), e(1, strings.Repeat("x", 9000))}
	var out []api.Raft
	for count := range len(odd) + 1 {
		for _, me := range []int{0, n} {
			for _, role := range []int{0, 1, 2, n} {
				h := api.Hard{Term: n, Vote: -n, Voters: []int{n, -n, 0, n}, Log: api.Log{Base: n, BaseTerm: -n, Entries: odd[:count]}}
				r := api.Raft{Me: me, Role: role, Leader: n, Commit: n, Left: n, Hard: h, Votes: []int{n, 0, n}}
				r.Marks = []api.Mark{{Node: 1, Next: n, Match: n}, {Node: n, Next: -n, Match: n}, {Node: 1}}
				out = append(out, r)
				r.Commit, r.Hard.Term = -n, 3
				out = append(out, r)
				r.Hard.Voters, r.Votes, r.Marks = nil, nil, nil
				out = append(out, r)
			}
		}
	}
	return out
}

func TestNothingPanics(t *testing.T) {
	for _, number := range far() {
		for _, r := range oddNodes(number) {
			New(number, r.Hard, -number)
			Tick(r, number)
			for _, n := range append(notesTo0(1, 3), notesTo0(1, 1<<40)...) {
				Check(n)
				Receive(r, n, number)
				n.To = r.Me
				Receive(r, n, number)
				n.Index = max(min(number, 1<<40), 0)
				n.Entries = nil
				Receive(r, n, number)
			}
			for kind := range 3 {
				Propose(r, kind, "\x00\x01")
				Propose(r, kind, "x")
			}
			Compact(r, number, "")
			Compact(r, -number, "")
			Majority(r.Hard.Voters, r.Votes)
		}
		Check(api.Note{Kind: number, From: number, To: -number, Term: number, Index: number, LogTerm: number, Commit: number, Voters: []int{number}, Entries: []api.Entry{{Term: number, Kind: number}}})
		Check(api.Note{Kind: 3, From: 1, Term: 1 << 40, Index: number, Entries: []api.Entry{{Term: number}}})
	}
	Tick(api.Raft{}, 0)
	Receive(api.Raft{}, api.Note{}, 0)
	Propose(api.Raft{}, 0, "")
	Compact(api.Raft{}, 0, "")
}

// TestALeaderOfMany has many entries that nobody else holds: each call takes no longer than its log is long.
func TestALeaderOfMany(t *testing.T) {
	r := leaderOf([]int{0, 1, 2}, line(0, 1, 100000), api.Mark{Node: 1, Next: 1}, api.Mark{Node: 2, Next: 1})
	for i := range 100 {
		r, _ = Receive(r, api.Note{Kind: 5, From: 1, To: 0, Term: 1, Good: true, Index: i * 16}, 1)
		counts(t, "Commit of many", r.Commit, i*16)
	}
	r, _ = Receive(r, api.Note{Kind: 5, From: 1, To: 0, Term: 1, Good: true, Index: 100000}, 1)
	counts(t, "Commit of all", r.Commit, 100000)
}
