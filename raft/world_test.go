package raft

import (
	"math/rand"
	"slices"
	"strconv"
	"strings"
	"testing"

	"fingerpost/api"
	"fingerpost/plog"
)

// P12.8

// known is what a world knows of an index that was committed: the entry, the term of who committed it first, and the voters and the snapshot as of there.
type known struct {
	entry        api.Entry
	term         int
	voters, snap string
}

// world is nodes, the notes between them, and what may not change any more.
type world struct {
	t         *testing.T
	r         *rand.Rand
	nodes     []api.Raft
	notes     []api.Note
	leaders   map[int]int // by terms
	committed []known     // by indexes
	count     map[string]int

	patience, loss, most, crashes int // how long nodes wait, how many of 100 notes are lost, how many are under way at most, how many of 1000 steps are crashes
	apart                         map[int]bool
}

// newWorld is a world of so many nodes, of which the first few are voters.
func newWorld(t *testing.T, r *rand.Rand, nodes, voters int) *world {
	data := all64()[:voters]
	w := &world{t: t, r: r, leaders: map[int]int{}, committed: []known{{voters: data}}, count: map[string]int{}}
	w.patience, w.loss, w.most, w.crashes = 3+r.Intn(20), r.Intn(50), 10<<r.Intn(5), r.Intn(30)
	first, _ := plog.List(data)
	for me := range nodes {
		w.nodes = append(w.nodes, New(me, api.Hard{Voters: first}, 0))
	}
	return w
}

// timeout is one that a node is given.
func (w *world) timeout() int {
	return 1 + w.r.Intn(w.patience)
}

// commit notes what was committed behind all that is known.
func (w *world) commit(entry api.Entry, term int) {
	before := w.committed[len(w.committed)-1]
	k := known{entry, term, before.voters, before.snap}
	if entry.Kind == 1 {
		k.voters = entry.Data
		w.count["voters"]++
	}
	sum := uint64(entry.Term*3 + entry.Kind)
	for _, b := range []byte(before.snap + "," + entry.Data) {
		sum = sum*1000003 + uint64(b)
	}
	k.snap = strconv.FormatUint(sum, 10)
	w.committed = append(w.committed, k)
	w.count["commit"]++
}

// set changes a node, puts its notes on their way, and checks what P12.8 says.
func (w *world) set(i int, r api.Raft, notes []api.Note) {
	old := w.nodes[i]
	w.nodes[i] = r
	for _, n := range notes {
		if Check(n) != api.OK || n.From != i || n.Term != r.Hard.Term {
			w.t.Errorf("node %d sends %v", i, n)
		}
		w.count["kind"+strconv.Itoa(n.Kind)]++
	}
	w.notes = append(w.notes, notes...)
	if r.Hard.Term < old.Hard.Term || r.Hard.Term == old.Hard.Term && old.Hard.Vote != 0 && r.Hard.Vote != old.Hard.Vote {
		w.t.Errorf("node %d goes from term %d, vote %d to term %d, vote %d", i, old.Hard.Term, old.Hard.Vote, r.Hard.Term, r.Hard.Vote)
	}
	w.checkCommit(r)
	w.checkLog(r)
	if r.Role == 2 {
		w.checkLeader(r)
	}
	for _, other := range w.nodes {
		w.checkPair(r, other)
	}
}

// checkCommit checks that what a node has committed is what all others have.
func (w *world) checkCommit(r api.Raft) {
	for i := r.Hard.Log.Base + 1; i <= r.Commit; i++ {
		entry, ok := plog.Get(r.Hard.Log, i)
		if i == len(w.committed) {
			w.commit(entry, r.Hard.Term)
		}
		if i > len(w.committed) || !ok || w.committed[i].entry != entry {
			w.t.Errorf("node %d has committed %v at %d", r.Me, entry, i)
			return
		}
	}
}

// checkLog checks a node's log, and its snapshot.
func (w *world) checkLog(r api.Raft) {
	base := r.Hard.Log.Base
	if plog.Check(r.Hard.Log) != api.OK || r.Commit < base || r.Commit > plog.Last(r.Hard.Log) || base >= len(w.committed) {
		w.t.Errorf("node %d has the log %v and Commit %d", r.Me, r.Hard.Log, r.Commit)
		return
	}
	if k := w.committed[base]; k.entry.Term != r.Hard.Log.BaseTerm || k.snap != r.Hard.Snap || k.voters != plog.Data(r.Hard.Voters) {
		w.t.Errorf("node %d has another snapshot up to %d", r.Me, base)
	}
}

// checkLeader checks that a leader is its term's only one, and has what was committed in terms ahead of its own.
func (w *world) checkLeader(r api.Raft) {
	me, ok := w.leaders[r.Hard.Term]
	if ok && me != r.Me {
		w.t.Errorf("term %d has the leaders %d and %d", r.Hard.Term, me, r.Me)
	}
	w.leaders[r.Hard.Term] = r.Me
	for i := r.Hard.Log.Base; i < len(w.committed) && !ok; i++ {
		k := w.committed[i]
		if term, there := plog.Term(r.Hard.Log, i); k.term < r.Hard.Term && (!there || term != k.entry.Term) {
			w.t.Errorf("the leader of term %d lacks entry %d", r.Hard.Term, i)
			return
		}
	}
}

// checkPair checks that two logs are equal up to the last index where they have the same term.
func (w *world) checkPair(a, b api.Raft) {
	same := false
	for i := min(plog.Last(a.Hard.Log), plog.Last(b.Hard.Log)); i > max(a.Hard.Log.Base, b.Hard.Log.Base); i-- {
		x, _ := plog.Get(a.Hard.Log, i)
		y, _ := plog.Get(b.Hard.Log, i)
		same = same || x.Term == y.Term
		if same && x != y {
			w.t.Errorf("nodes %d and %d have %v and %v at %d", a.Me, b.Me, x, y, i)
		}
		if x != y {
			w.count["differ"]++
		}
	}
}

// deliver has one of the notes arrive, or be lost, or arrive and stay. Those to and from nodes that are apart are late.
func (w *world) deliver() {
	if len(w.notes) == 0 {
		return
	}
	k := w.r.Intn(len(w.notes))
	n := w.notes[k]
	if w.apart[n.From] != w.apart[n.To] {
		return
	}
	if w.r.Intn(10) > 0 {
		w.notes = slices.Delete(w.notes, k, k+1)
	}
	if w.r.Intn(100) >= w.loss {
		r, notes := Receive(w.nodes[n.To], n, w.timeout())
		w.set(n.To, r, notes)
	}
}

// forget loses some notes if there are too many.
func (w *world) forget() {
	for len(w.notes) > w.most {
		k := w.r.Intn(len(w.notes))
		w.notes = slices.Delete(w.notes, k, k+1)
	}
}

// tick is a tick of a node.
func (w *world) tick(i int) {
	r, notes := Tick(w.nodes[i], w.timeout())
	w.set(i, r, notes)
}

// propose has a node propose something, which it refuses if it is not the leader.
func (w *world) propose(i int) {
	kind, data := 0, strconv.Itoa(w.r.Int())
	switch w.r.Intn(8) {
	case 0, 1:
		kind, data = 1, anyProposal(w.r, w.nodes[i])
	case 2:
		kind, data = 1, plog.Data(anyVoters(w.r))
	}
	if kind == 1 && strings.ContainsAny(data, all64()[len(w.nodes):]) {
		return
	}
	r, notes, index, err := Propose(w.nodes[i], kind, data)
	if err == api.OK && index != plog.Last(r.Hard.Log) || err != api.OK && len(notes) > 0 {
		w.t.Errorf("node %d proposes entry %d", i, index)
	}
	w.set(i, r, notes)
}

// burst has a node propose more than one note has room for.
func (w *world) burst(i int) {
	for range 10 + w.r.Intn(20) {
		w.propose(i)
		w.forget()
	}
}

// compact has a node put what it has committed into a snapshot.
func (w *world) compact(i int) {
	base, commit := w.nodes[i].Hard.Log.Base, w.nodes[i].Commit
	if commit > base {
		upto := base + 1 + w.r.Intn(commit-base)
		r, err := Compact(w.nodes[i], upto, w.committed[upto].snap)
		gives(w.t, "Compact", err, api.OK)
		w.set(i, r, nil)
	}
}

// crash has a node begin anew, with a commit that it had.
func (w *world) crash(i int) {
	w.set(i, New(i, w.nodes[i].Hard, w.r.Intn(w.nodes[i].Commit+1)), nil)
}

// part cuts off some nodes from the others, or none.
func (w *world) part() {
	w.apart = map[int]bool{}
	for i := range w.nodes {
		w.apart[i] = w.r.Intn(3) == 0
	}
	if w.r.Intn(2) == 0 {
		w.apart = nil
	}
}

// step is one thing that happens.
func (w *world) step() {
	i := w.r.Intn(len(w.nodes))
	switch k := w.r.Intn(1000); {
	case k < w.crashes:
		w.crash(i)
	case k < 35:
		w.part()
	case k < 60:
		w.compact(i)
	case k < 180:
		w.propose(i)
	case k < 185:
		w.burst(i)
	case k < 450:
		w.tick(i)
	default:
		w.deliver()
	}
	w.forget()
}

func TestTheAlgorithm(t *testing.T) {
	total := map[string]int{}
	for seed := range 400 {
		r := rand.New(rand.NewSource(int64(seed)))
		nodes := 2 + r.Intn(5)
		w := newWorld(t, r, nodes, 1+r.Intn(nodes))
		for range 3000 {
			w.step()
			if t.Failed() {
				t.Fatalf("seed %d", seed)
			}
		}
		w.count["leaders"] = len(w.leaders)
		for what, n := range w.count {
			total[what] += n
		}
	}
	for what, least := range map[string]int{"leaders": 5000, "commit": 5000, "voters": 500, "differ": 10000, "kind1": 10000, "kind2": 10000, "kind3": 10000, "kind4": 1000, "kind5": 10000} {
		if total[what] < least {
			t.Errorf("there are only %d of %s", total[what], what)
		}
	}
}

// round is a tick of each node, with all notes delivered.
func (w *world) round() {
	for i := range w.nodes {
		r, notes := Tick(w.nodes[i], 5+w.r.Intn(20))
		w.set(i, r, notes)
		for len(w.notes) > 0 {
			n := w.notes[0]
			w.notes = w.notes[1:]
			r, notes := Receive(w.nodes[n.To], n, 5+w.r.Intn(20))
			w.set(n.To, r, notes)
		}
	}
}

// TestProgress has nodes whose notes all arrive: they agree on a leader, and commit what it proposes.
func TestProgress(t *testing.T) {
	for count := 1; count <= 7; count++ {
		w := newWorld(t, rand.New(rand.NewSource(int64(count))), count, count)
		for range 100 {
			w.round()
		}
		lead := slices.IndexFunc(w.nodes, func(r api.Raft) bool { return r.Role == 2 })
		if lead < 0 {
			t.Fatalf("%d nodes have no leader", count)
		}
		for range 60 {
			r, notes, _, _ := Propose(w.nodes[lead], 0, "c")
			w.set(lead, r, notes)
		}
		for range 20 {
			w.round()
		}
		for i, r := range w.nodes {
			if r.Commit < 61 || r.Leader != lead+1 {
				t.Errorf("node %d of %d has Commit %d and Leader %d", i, count, r.Commit, r.Leader)
			}
		}
	}
}

// TestANodeThatWasAway has a leader whose log was cut off, and a node that lacks all of it.
func TestANodeThatWasAway(t *testing.T) {
	for lacks := range 40 {
		l, _ := plog.Cut(line(0, 1, 40), 20)
		r := leaderOf([]int{0, 1}, l, api.Mark{Node: 1, Next: 41})
		r.Hard.Voters = []int{0, 1}
		other := New(1, api.Hard{Term: 1, Voters: []int{0, 1}, Log: line(0, 1, lacks)}, 0)
		if lacks%2 == 1 {
			other.Hard.Log = logOf(0, 0, slices.Repeat([]int{0}, lacks)...) // entries of an older leader
		}
		r, notes := Tick(r, 9)
		for range 40 {
			if len(notes) == 0 {
				r, notes = Tick(r, 9)
			}
			other, notes = receives(t, "the other one", other, notes[0], 9)
			r, notes = receives(t, "the leader", r, notes[0], 9)
		}
		counts(t, "the leader's Commit", r.Commit, 40)
		if !slices.Equal(plog.Slice(other.Hard.Log, 21, 99), l.Entries) || other.Commit != 40 {
			t.Errorf("a node that had %d entries has %v", lacks, other)
		}
	}
}
