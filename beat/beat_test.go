package beat

import (
	"fmt"
	"math"
	"math/rand"
	"slices"
	"testing"
)

// end is the greatest time.
const end = 1 << 50

// is tells of a call that answered something else.
func is[T comparable](t *testing.T, what string, got, want T) {
	t.Helper()
	if got != want {
		t.Errorf("%s is %v, want %v", what, got, want)
	}
}

// all tells of other nodes that are alive.
func all(t *testing.T, what string, b *Beat, now int, want ...int) {
	t.Helper()
	if got := b.All(now); !slices.Equal(got, want) {
		t.Errorf("%s: All(%d) is %v, want %v", what, now, got, want)
	}
}

// last tells of another time at which a node was heard of.
func last(t *testing.T, what string, b *Beat, node, want int) {
	t.Helper()
	if got, ok := b.Last(node); got != want || !ok {
		t.Errorf("%s: Last(%d) is %d, %v, want %d", what, node, got, ok, want)
	}
}

// never tells of a node that was heard of.
func never(t *testing.T, what string, b *Beat, node int) {
	t.Helper()
	if got, ok := b.Last(node); got != 0 || ok {
		t.Errorf("%s: Last(%d) is %d, %v", what, node, got, ok)
	}
	for _, now := range someTimes() {
		is(t, fmt.Sprintf("%s: Alive(%d, %d)", what, node, now), b.Alive(node, now), false)
	}
}

// due tells of another time at which the next node is alive no more.
func due(t *testing.T, what string, b *Beat, now, want int) {
	t.Helper()
	if got, ok := b.Due(now); got != want || !ok {
		t.Errorf("%s: Due(%d) is %d, %v, want %d", what, now, got, ok, want)
	}
}

// noDue tells of a time although no node is alive.
func noDue(t *testing.T, what string, b *Beat, now int) {
	t.Helper()
	if got, ok := b.Due(now); got != 0 || ok {
		t.Errorf("%s: Due(%d) is %d, %v", what, now, got, ok)
	}
}

// seen hears of a node.
func seen(t *testing.T, b *Beat, node, now int) {
	t.Helper()
	is(t, fmt.Sprintf("Seen(%d, %d)", node, now), b.Seen(node, now), true)
}

// someTimes are times at both ends of their range and of what an int is.
func someTimes() []int {
	return []int{math.MinInt, math.MinInt + 1, -end, -1, 0, 1, 2, 9, 10, 11, 100, 1 << 31, 1 << 32, end - 1, end, end + 1, math.MaxInt - 1, math.MaxInt}
}

// noNodes are numbers that no node has.
func noNodes() []int {
	return []int{math.MinInt, -1 << 32, -256, -255, -64, -2, -1, 64, 65, 127, 128, 255, 256, 259, 1 << 32, 1<<32 + 3, math.MaxInt}
}

// time is the time that a number counts as.
func time(n int) int {
	if n < 0 {
		return 0
	}
	if n > end {
		return end
	}
	return n
}

// plain is a tracker by the chapter's words: for each node all times at which it was heard of since it was forgotten.
type plain struct {
	limit int
	times [64][]int
}

func (p *plain) seen(node, now int) bool {
	if node < 0 || node > 63 {
		return false
	}
	p.times[node] = append(p.times[node], time(now))
	return true
}

func (p *plain) forget(node int) bool {
	_, ok := p.last(node)
	if ok {
		p.times[node] = nil
	}
	return ok
}

func (p *plain) last(node int) (int, bool) {
	if node < 0 || node > 63 || len(p.times[node]) == 0 {
		return 0, false
	}
	return slices.Max(p.times[node]), true
}

func (p *plain) alive(node, now int) bool {
	if node < 0 || node > 63 {
		return false
	}
	return slices.ContainsFunc(p.times[node], func(at int) bool { return time(now) <= at+time(p.limit) })
}

func (p *plain) all(now int) []int {
	var out []int
	for node := range 64 {
		if p.alive(node, now) {
			out = append(out, node)
		}
	}
	return out
}

func (p *plain) due(now int) (int, bool) {
	var ends []int
	for _, node := range p.all(now) {
		at, _ := p.last(node)
		ends = append(ends, at+time(p.limit)+1)
	}
	if len(ends) == 0 {
		return 0, false
	}
	return slices.Min(ends), true
}

// alike tells of a tracker that answers otherwise than the chapter's words.
func alike(t *testing.T, what string, b *Beat, p *plain, nodes, times []int) {
	t.Helper()
	for _, node := range nodes {
		got, ok := b.Last(node)
		want, there := p.last(node)
		if got != want || ok != there {
			t.Fatalf("%s: Last(%d) is %d, %v, want %d, %v", what, node, got, ok, want, there)
		}
	}
	for _, now := range times {
		for _, node := range nodes {
			if got, want := b.Alive(node, now), p.alive(node, now); got != want {
				t.Fatalf("%s: Alive(%d, %d) is %v", what, node, now, got)
			}
		}
		if got, want := b.All(now), p.all(now); !slices.Equal(got, want) {
			t.Fatalf("%s: All(%d) is %v, want %v", what, now, got, want)
		}
		got, ok := b.Due(now)
		want, there := p.due(now)
		if got != want || ok != there {
			t.Fatalf("%s: Due(%d) is %d, %v, want %d, %v", what, now, got, ok, want, there)
		}
	}
}

// everyNode are all numbers of nodes, and some that no node has.
func everyNode() []int {
	nodes := noNodes()
	for node := range 64 {
		nodes = append(nodes, node)
	}
	return nodes
}

// P15.1

func TestNewHasHeardOfNoNode(t *testing.T) {
	for _, limit := range someTimes() {
		b := New(limit)
		what := fmt.Sprintf("New(%d)", limit)
		for _, node := range everyNode() {
			never(t, what, b, node)
			is(t, what+": Forget", b.Forget(node), false)
		}
		for _, now := range someTimes() {
			all(t, what, b, now)
			noDue(t, what, b, now)
		}
	}
}

func TestSeenOfEachNode(t *testing.T) {
	b := New(10)
	for node := range 64 {
		never(t, "ahead of Seen", b, node)
		seen(t, b, node, 100+node)
		last(t, "behind Seen", b, node, 100+node)
		if got := len(b.All(0)); got != node+1 {
			t.Errorf("behind Seen of %d, %d nodes are alive", node, got)
		}
	}
	for node := range 64 {
		last(t, "behind Seen of all", b, node, 100+node)
	}
}

func TestSeenOfNoNode(t *testing.T) {
	empty, b, p := New(10), New(10), &plain{limit: 10}
	for _, node := range []int{0, 3, 63} {
		seen(t, b, node, 50)
		p.seen(node, 50)
	}
	for _, node := range noNodes() {
		for _, now := range someTimes() {
			is(t, fmt.Sprintf("Seen(%d, %d)", node, now), b.Seen(node, now), false)
			is(t, fmt.Sprintf("Seen(%d, %d)", node, now), empty.Seen(node, now), false)
		}
		never(t, "of no node", b, node)
		is(t, fmt.Sprintf("Forget(%d)", node), b.Forget(node), false)
		is(t, fmt.Sprintf("Forget(%d)", node), empty.Forget(node), false)
	}
	alike(t, "behind wrong nodes", b, p, everyNode(), someTimes())
	alike(t, "behind wrong nodes alone", empty, &plain{limit: 10}, everyNode(), someTimes())
}

func TestSeenKeepsTheGreatestTime(t *testing.T) {
	for _, c := range []struct {
		times []int
		want  int
	}{
		{[]int{100}, 100},
		{[]int{100, 90}, 100},
		{[]int{90, 100}, 100},
		{[]int{100, 100}, 100},
		{[]int{5, 4, 6, 3, 7, 2}, 7},
		{[]int{0}, 0},
		{[]int{1, 0}, 1},
		{[]int{-1}, 0},
		{[]int{math.MinInt}, 0},
		{[]int{-5, -1, -9}, 0},
		{[]int{8, -3}, 8},
		{[]int{-3, 8}, 8},
		{[]int{end}, end},
		{[]int{end - 1}, end - 1},
		{[]int{end + 1}, end},
		{[]int{math.MaxInt}, end},
		{[]int{math.MaxInt, end - 1}, end},
		{[]int{math.MaxInt, math.MinInt}, end},
		{[]int{1<<32 + 1, 7}, 1<<32 + 1},
	} {
		for _, node := range []int{0, 3, 63} {
			b := New(10)
			for _, now := range c.times {
				seen(t, b, node, now)
			}
			last(t, fmt.Sprintf("heard of at %v", c.times), b, node, c.want)
		}
	}
}

func TestForget(t *testing.T) {
	b := New(10)
	for _, node := range []int{0, 3, 63} {
		seen(t, b, node, 100+node)
	}
	is(t, "Forget of one that was not heard of", b.Forget(4), false)
	all(t, "behind a Forget of nothing", b, 100, 0, 3, 63)
	is(t, "Forget of one that was", b.Forget(3), true)
	never(t, "forgotten", b, 3)
	all(t, "behind Forget", b, 100, 0, 63)
	last(t, "beside the forgotten one", b, 0, 100)
	last(t, "beside the forgotten one", b, 63, 163)
	is(t, "a second Forget", b.Forget(3), false)
	seen(t, b, 3, 20)
	last(t, "heard of anew, at a lesser time", b, 3, 20)
	is(t, "Forget of the last node", b.Forget(63), true)
	is(t, "Forget of the first one", b.Forget(0), true)
	due(t, "with one node left", b, 20, 31)
	is(t, "Forget of the one that is left", b.Forget(3), true)
	alike(t, "with none left", b, &plain{limit: 10}, everyNode(), someTimes())
}

func TestForgetOfTime0(t *testing.T) {
	b := New(0)
	seen(t, b, 5, 0)
	last(t, "heard of at 0", b, 5, 0)
	is(t, "Forget of one heard of at 0", b.Forget(5), true)
	never(t, "forgotten", b, 5)
}

func TestForgetOfOneThatIsAliveNoMore(t *testing.T) {
	b := New(10)
	seen(t, b, 5, 0)
	is(t, "Alive", b.Alive(5, 1000), false)
	last(t, "alive no more", b, 5, 0)
	is(t, "Forget of it", b.Forget(5), true)
}

// P15.2

func TestAliveAboutTheLimit(t *testing.T) {
	for _, c := range []struct {
		limit, at, now int
		want           bool
	}{
		{10, 100, 110, true},
		{10, 100, 111, false},
		{10, 100, 109, true},
		{10, 100, 100, true},
		{10, 100, 99, true},
		{10, 100, 0, true},
		{10, 100, -1, true},
		{10, 100, math.MinInt, true},
		{10, 100, end, false},
		{10, 100, math.MaxInt, false},
		{0, 100, 100, true},
		{0, 100, 101, false},
		{0, 100, 99, true},
		{0, 0, 0, true},
		{0, 0, -7, true},
		{0, -7, 0, true},
		{0, 0, 1, false},
		{-5, 100, 100, true},
		{-5, 100, 101, false},
		{math.MinInt, 100, 100, true},
		{math.MinInt, 100, 101, false},
		{end, 0, end, true},
		{end, 0, math.MaxInt, true},
		{end - 1, 0, end - 1, true},
		{end - 1, 0, end, false},
		{end - 1, 0, math.MaxInt, false},
		{end - 1, 1, math.MaxInt, true},
		{end + 1, 0, math.MaxInt, true},
		{math.MaxInt, math.MaxInt, math.MaxInt, true},
		{math.MaxInt, math.MaxInt, math.MinInt, true},
		{math.MaxInt, math.MinInt, math.MaxInt, true},
		{5, end - 5, math.MaxInt, true},
		{5, end - 6, math.MaxInt, false},
		{5, end - 6, end - 1, true},
		{0, math.MaxInt, end, true},
		{0, end + 9, end + 10, true},
		{5, -20, 5, true},
		{5, -20, 6, false},
	} {
		b := New(c.limit)
		seen(t, b, 3, c.at)
		what := fmt.Sprintf("limit %d, heard of at %d: ", c.limit, c.at)
		is(t, what+fmt.Sprintf("Alive(3, %d)", c.now), b.Alive(3, c.now), c.want)
		is(t, what+"Alive of another node", b.Alive(4, c.now), false)
		is(t, what+"whether there is a node", len(b.All(c.now)) == 1, c.want)
		_, ok := b.Due(c.now)
		is(t, what+"whether one is due", ok, c.want)
	}
}

func TestAll(t *testing.T) {
	b := New(10)
	for i, node := range []int{63, 7, 0, 30, 8, 62} {
		seen(t, b, node, 100+5*i)
	}
	for now, want := range map[int][]int{
		0:   {0, 7, 8, 30, 62, 63},
		110: {0, 7, 8, 30, 62, 63},
		111: {0, 7, 8, 30, 62},
		115: {0, 7, 8, 30, 62},
		116: {0, 8, 30, 62},
		121: {8, 30, 62},
		126: {8, 62},
		135: {62},
		136: nil,
		end: nil,
	} {
		all(t, "six nodes", b, now, want...)
	}
}

func TestAllOf64(t *testing.T) {
	b := New(100)
	var want []int
	for _, node := range rand.New(rand.NewSource(1)).Perm(64) {
		seen(t, b, node, node)
	}
	for node := range 64 {
		want = append(want, node)
	}
	for range 50 {
		all(t, "64 nodes", b, 100, want...)
		all(t, "64 nodes, half of them too late", b, 132, want[32:]...)
	}
}

func TestDue(t *testing.T) {
	b := New(10)
	noDue(t, "without a node", b, 0)
	seen(t, b, 3, 100)
	due(t, "one node", b, 105, 111)
	due(t, "one node, at its last time", b, 110, 111)
	due(t, "one node, at a lesser time", b, 0, 111)
	due(t, "one node, at a time below 0", b, math.MinInt, 111)
	noDue(t, "one node, too late", b, 111)
	noDue(t, "one node, much too late", b, math.MaxInt)
	seen(t, b, 9, 95)
	due(t, "two nodes", b, 105, 106)
	due(t, "two nodes, of which the other one is alive no more", b, 106, 111)
	seen(t, b, 1, 104)
	due(t, "three nodes", b, 100, 106)
	due(t, "three nodes, of which one is alive no more", b, 107, 111)
	due(t, "three nodes, of which two are alive no more", b, 112, 115)
	noDue(t, "three nodes, too late", b, 115)
	seen(t, b, 9, 200)
	due(t, "heard of again", b, 105, 111)
	seen(t, b, 3, 102)
	due(t, "heard of again", b, 105, 113)
	b.Forget(3)
	due(t, "with one forgotten", b, 105, 115)
}

func TestDueAtTheEnds(t *testing.T) {
	for _, c := range []struct{ limit, at, now, want int }{
		{0, 0, 0, 1},
		{-9, -9, -9, 1},
		{0, 7, 7, 8},
		{end, 0, 0, end + 1},
		{0, end, end, end + 1},
		{end, end, end, 2*end + 1},
		{math.MaxInt, math.MaxInt, math.MaxInt, 2*end + 1},
		{end - 1, 0, 0, end},
		{10, end - 11, math.MinInt, end},
		{10, end - 10, math.MaxInt, end + 1},
	} {
		b := New(c.limit)
		seen(t, b, 63, c.at)
		due(t, fmt.Sprintf("limit %d, heard of at %d", c.limit, c.at), b, c.now, c.want)
	}
}

func TestExamples(t *testing.T) {
	b := New(10)
	seen(t, b, 3, 100)
	is(t, "Alive(3, 110)", b.Alive(3, 110), true)
	is(t, "Alive(3, 111)", b.Alive(3, 111), false)
	seen(t, b, 3, 90)
	last(t, "heard of at 90 too", b, 3, 100)
	all(t, "the example", b, 105, 3)
	due(t, "the example", b, 105, 111)
}

func TestNil(t *testing.T) {
	var b *Beat
	for _, node := range everyNode() {
		for _, now := range someTimes() {
			is(t, "Seen of nil", b.Seen(node, now), false)
		}
		never(t, "nil", b, node)
		is(t, "Forget of nil", b.Forget(node), false)
	}
	for _, now := range someTimes() {
		all(t, "nil", b, now)
		noDue(t, "nil", b, now)
	}
}

func TestZero(t *testing.T) {
	var fresh Beat
	alike(t, "a zero Beat", &fresh, &plain{}, everyNode(), someTimes())
	is(t, "Forget of a zero Beat", fresh.Forget(0), false)
	is(t, "Seen of a zero Beat with a wrong node", fresh.Seen(64, 1), false)
	p := &plain{}
	for i, node := range []int{5, 0, 63, 5} {
		seen(t, &fresh, node, 10*i)
		p.seen(node, 10*i)
		alike(t, "a zero Beat that has heard", &fresh, p, everyNode(), append(someTimes(), 20, 21, 30, 31))
	}
	is(t, "Forget of a zero Beat", fresh.Forget(5), true)
	p.forget(5)
	alike(t, "a zero Beat that forgot", &fresh, p, everyNode(), someTimes())
}

// Random calls against the chapter's words.

// someTime is a time of a small range, or one at the ends.
func someTime(r *rand.Rand) int {
	if r.Intn(10) == 0 {
		times := someTimes()
		return times[r.Intn(len(times))]
	}
	return r.Intn(60) - 5
}

// someNode is one of few nodes, or of all, or none.
func someNode(r *rand.Rand) int {
	switch r.Intn(12) {
	case 0:
		return noNodes()[r.Intn(len(noNodes()))]
	case 1, 2:
		return r.Intn(64)
	}
	return []int{0, 1, 31, 62, 63}[r.Intn(5)]
}

func TestRandomCalls(t *testing.T) {
	r := rand.New(rand.NewSource(2))
	for round := range 300 {
		limit := someTime(r)
		b, p := New(limit), &plain{limit: limit}
		for step := range 60 {
			what := fmt.Sprintf("round %d, step %d", round, step)
			node, now := someNode(r), someTime(r)
			if r.Intn(4) == 0 {
				is(t, what+": Forget", b.Forget(node), p.forget(node))
			} else {
				is(t, what+": Seen", b.Seen(node, now), p.seen(node, now))
			}
			times := []int{now, now - 1, now + limit, now + limit + 1, someTime(r)}
			alike(t, what, b, p, []int{node, someNode(r), someNode(r)}, times)
		}
		alike(t, fmt.Sprintf("round %d, at its end", round), b, p, everyNode(), someTimes())
	}
}

// P15.3

func TestAliveForTheLimitAndNotLonger(t *testing.T) {
	for _, limit := range []int{0, 1, 2, 7, 50} {
		for _, at := range []int{0, 1, 30, 1 << 40} {
			b := New(limit)
			seen(t, b, 12, at)
			for now := at; now <= at+2*limit+3; now++ {
				is(t, fmt.Sprintf("limit %d, heard of at %d: Alive(%d)", limit, at, now), b.Alive(12, now), now-at <= limit)
			}
			again := at + limit/2
			seen(t, b, 12, again)
			for now := again; now <= again+2*limit+3; now++ {
				is(t, fmt.Sprintf("limit %d, heard of again at %d: Alive(%d)", limit, again, now), b.Alive(12, now), now-again <= limit)
			}
		}
	}
}

// From now till it is due, the same nodes are alive; then one is not.
func TestDueIsWhenOneIsAliveNoMore(t *testing.T) {
	r := rand.New(rand.NewSource(3))
	for range 300 {
		b := New(r.Intn(20))
		for range 1 + r.Intn(20) {
			b.Seen(r.Intn(64), 20+r.Intn(30))
		}
		now := r.Intn(50)
		for steps := 0; len(b.All(now)) > 0; steps++ {
			when, ok := b.Due(now)
			if !ok || when <= now || steps > 64 {
				t.Fatalf("Due(%d) is %d, %v", now, when, ok)
			}
			all(t, "ahead of what is due", b, when-1, b.All(now)...)
			is(t, "whether one is alive no more", len(b.All(when)) < len(b.All(now)), true)
			now = when
		}
		noDue(t, "with none left", b, now)
	}
}

// What is asked changes nothing; what is answered is the caller's; trackers have nothing in common; the same calls answer the same.

func TestAskingChangesNothing(t *testing.T) {
	b, p := New(10), &plain{limit: 10}
	for node := 5; node < 64; node += 7 {
		seen(t, b, node, 3*node)
		p.seen(node, 3*node)
	}
	for _, now := range append(someTimes(), 50, 60, 1000) {
		for _, node := range everyNode() {
			b.Alive(node, now)
			b.Last(node)
		}
		b.All(now)
		b.Due(now)
		alike(t, "behind questions", b, p, everyNode(), append(someTimes(), 40, 90))
	}
}

func TestAnswersAreTheCallers(t *testing.T) {
	b := New(10)
	for node := range 5 {
		seen(t, b, node, 100)
	}
	first, second := b.All(100), b.All(100)
	for i := range cap(first) {
		first[:cap(first)][i] = 40
	}
	is(t, "that a list keeps as it was", slices.Equal(second, []int{0, 1, 2, 3, 4}), true)
	all(t, "behind a change of an answer", b, 100, 0, 1, 2, 3, 4)
	b.Forget(2)
	b.Seen(60, 100)
	is(t, "that a list keeps as it was", slices.Equal(second, []int{0, 1, 2, 3, 4}), true)
}

func TestTrackersAreApart(t *testing.T) {
	one, two := New(10), New(20)
	seen(t, one, 3, 100)
	never(t, "the other one", two, 3)
	seen(t, two, 3, 50)
	last(t, "the first one", one, 3, 100)
	is(t, "Forget", two.Forget(3), true)
	last(t, "the first one", one, 3, 100)
	due(t, "the first one", one, 100, 111)
}

func TestTheSameCallsAnswerTheSame(t *testing.T) {
	play := func() string {
		r := rand.New(rand.NewSource(4))
		b := New(15)
		out := ""
		for range 500 {
			node, now := r.Intn(70)-3, r.Intn(60)
			if r.Intn(5) == 0 {
				out += fmt.Sprint(b.Forget(node))
			}
			out += fmt.Sprint(b.Seen(node, now), b.All(now), b.Alive(node, now+9))
			when, ok := b.Due(now)
			at, there := b.Last(node)
			out += fmt.Sprintln(when, ok, at, there)
		}
		return out
	}
	first := play()
	for range 5 {
		is(t, "a second run", play() == first, true)
	}
}
