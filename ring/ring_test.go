package ring

import (
	"cmp"
	"crypto/sha256"
	"encoding/binary"
	"fmt"
	"math"
	"math/rand"
	"slices"
	"strings"
	"testing"

	"fingerpost/api"
)

// holds tells of what should hold and does not.
func holds(t *testing.T, what string, ok bool) {
	t.Helper()
	if !ok {
		t.Errorf("%s does not hold", what)
	}
}

// lists tells of another list.
func lists(t *testing.T, what string, got, want []int) {
	t.Helper()
	if !slices.Equal(got, want) {
		t.Errorf("%s is %v, want %v", what, got, want)
	}
}

// answers tells of another node, or of another answer whether there is one.
func answers(t *testing.T, what string, node int, ok bool, want int) {
	t.Helper()
	if node != want || ok != (want >= 0) {
		t.Errorf("%s is %d, %v, want %d", what, node, ok, want)
	}
}

// hashed is the first 8 bytes of SHA-256 as a number.
func hashed(s string) uint64 {
	sum := sha256.Sum256([]byte(s))
	return binary.BigEndian.Uint64(sum[:8])
}

// pointText is what a node's point is hashed of.
func pointText(node, k int) string {
	return string([]byte{'r', byte(node), byte(k)})
}

// plain is a ring by the chapter's words: each node's points in the order of their numbers.
type plain map[int][16]uint64

// plainRing has those of the nodes that are from 0 to 63.
func plainRing(nodes ...int) plain {
	r := plain{}
	for _, node := range nodes {
		if node < 0 || node > 63 {
			continue
		}
		var points [16]uint64
		for k := range points {
			points[k] = hashed(pointText(node, k))
		}
		r[node] = points
	}
	return r
}

// nodes are the nodes, rising.
func (r plain) nodes() []int {
	var out []int
	for n := range 64 {
		if _, ok := r[n]; ok {
			out = append(out, n)
		}
	}
	return out
}

// at is the point that has i others ahead of it, and whose it is.
func (r plain) at(i int) (uint64, int) {
	for node, points := range r {
		for _, p := range points {
			ahead := 0
			for other, ps := range r {
				for _, q := range ps {
					if q < p || q == p && other < node {
						ahead++
					}
				}
			}
			if ahead == i {
				return p, node
			}
		}
	}
	return 0, -1
}

// order are the nodes by the way from a place to the nearest of their points, which wraps round as the ring does.
func (r plain) order(place uint64) []int {
	way := func(node int) uint64 {
		least := uint64(math.MaxUint64)
		for _, p := range r[node] {
			least = min(least, p-place)
		}
		return least
	}
	nodes := r.nodes()
	slices.SortFunc(nodes, func(a, b int) int {
		return cmp.Or(cmp.Compare(way(a), way(b)), cmp.Compare(a, b))
	})
	return nodes
}

// someKeys are keys of questions, and other strings.
func someKeys() []string {
	keys := []string{"", "\x00", "\x00\x00\x01\x00\x01", "r", "r\x00", "\xff\xff\xff\xff", strings.Repeat("k", 64), strings.Repeat("k", 5000)}
	for i := range 300 {
		host := fmt.Sprintf("host%d", i)
		n := string([]byte{byte(len(host))}) + host + "\x07example\x00"
		keys = append(keys, Key(api.Question{Name: n, Type: uint16(i % 30), Class: api.ClassIN}))
	}
	return keys
}

// someRings are lists of nodes for rings of any size.
func someRings() [][]int {
	r := rand.New(rand.NewSource(1))
	out := [][]int{nil, {0}, {5}, {63}, {0, 63}, {1, 2}, {3, 1, 3}, {10, 11, 12, 13}, r.Perm(64)}
	for size := 3; size < 64; size += 6 {
		out = append(out, r.Perm(64)[:size])
	}
	return out
}

// noRings are the rings without nodes.
func noRings() map[string]*Ring {
	var zero Ring
	return map[string]*Ring{"nil": nil, "a zero Ring": &zero, "New of nothing": New(), "New of no node": New(-1, 64), "New of an empty list": New([]int{}...)}
}

// P14.1

func TestNodes(t *testing.T) {
	many := make([]int, 0, 100000)
	for i := range 100000 {
		many = append(many, i%50-20)
	}
	for _, c := range []struct {
		nodes, want []int
	}{
		{nil, nil},
		{[]int{5}, []int{5}},
		{[]int{3, 1, 3}, []int{1, 3}},
		{[]int{0}, []int{0}},
		{[]int{63}, []int{63}},
		{[]int{64, 63, 0, -1}, []int{0, 63}},
		{[]int{-1}, nil},
		{[]int{64}, nil},
		{[]int{65, 127, 128, 255, 256, 257, 1 << 32, 1<<32 + 1, math.MaxInt, math.MinInt, -64, -255, -256}, nil},
		{[]int{256 + 7, 7, -249}, []int{7}},
		{[]int{9, 8, 7, 7, 8, 9, 9}, []int{7, 8, 9}},
		{many, plainRing(many...).nodes()},
	} {
		r := New(c.nodes...)
		what := fmt.Sprintf("of a ring of %.40v", c.nodes)
		lists(t, "Nodes "+what, r.Nodes(), c.want)
		if got := r.Len(); got != 16*len(c.want) {
			t.Errorf("Len %s is %d, want %d", what, got, 16*len(c.want))
		}
	}
	all := New(rand.New(rand.NewSource(2)).Perm(64)...)
	holds(t, "that 64 nodes have 1024 points", len(all.Nodes()) == 64 && slices.IsSorted(all.Nodes()) && all.Len() == 1024)
	holds(t, "that a node has 16 points", Points == 16)
}

func TestPointsOfOneNode(t *testing.T) {
	for node := range 64 {
		r := New(node)
		var want, got []uint64
		for k := range 16 {
			want = append(want, hashed(pointText(node, k)))
			place, whose := r.At(k)
			holds(t, "that a point is of its node", whose == node)
			got = append(got, place)
		}
		slices.Sort(want)
		if !slices.Equal(got, want) {
			t.Errorf("the points of %d are %x, want %x", node, got, want)
		}
	}
}

func TestKnownPoints(t *testing.T) {
	r := New(5)
	least, _ := r.At(0)
	greatest, _ := r.At(15)
	if least != 0x094a3ce5c9a9071c || greatest != 0xebbd48583d0b0d90 {
		t.Errorf("the points of 5 are from %x to %x", least, greatest)
	}
}

func TestAt(t *testing.T) {
	for _, nodes := range [][]int{{}, {7}, {3, 1, 3}, {0, 63, 30, 2}, {20, 21, 22, 23, 24, 64, -1}} {
		r, want := New(nodes...), plainRing(nodes...)
		for i := -3; i < r.Len()+3; i++ {
			place, node := r.At(i)
			if p, n := want.at(i); place != p || node != n {
				t.Errorf("At(%d) of a ring of %v is %x, %d, want %x, %d", i, nodes, place, node, p, n)
			}
		}
	}
}

func TestAllPointsRise(t *testing.T) {
	for _, nodes := range someRings() {
		r := New(nodes...)
		owns := map[int]int{}
		before := uint64(0)
		for i := range r.Len() {
			place, node := r.At(i)
			if i > 0 && place <= before {
				t.Fatalf("At(%d) of a ring of %v is %x behind %x", i, nodes, place, before)
			}
			before = place
			owns[node]++
		}
		for _, node := range nodes {
			holds(t, "that each node has 16 of the points", owns[node] == 16)
		}
	}
}

func TestAtOutside(t *testing.T) {
	for _, nodes := range someRings() {
		r := New(nodes...)
		for _, i := range []int{-1, -2, -16, math.MinInt, r.Len(), r.Len() + 1, 2 * r.Len(), 1024, 1 << 32, math.MaxInt} {
			if place, node := r.At(i); place != 0 || node != -1 {
				t.Errorf("At(%d) of a ring of %v is %x, %d", i, nodes, place, node)
			}
		}
	}
}

// No two points of 64 nodes are equal; so equal ones are laid beside one another by hand.
func TestEqualPoints(t *testing.T) {
	r := rand.New(rand.NewSource(3))
	want := []point{{0, 3}, {0, 9}, {7, 0}, {7, 2}, {7, 63}, {8, 1}, {math.MaxUint64, 4}, {math.MaxUint64, 5}}
	for range 200 {
		points := slices.Clone(want)
		r.Shuffle(len(points), func(i, j int) { points[i], points[j] = points[j], points[i] })
		arrange(points)
		if !slices.Equal(points, want) {
			t.Fatalf("the order is %v, want %v", points, want)
		}
	}
	ring := &Ring{points: want}
	for place, order := range map[uint64][]int{
		0:                  {3, 9, 0, 2, 63, 1, 4, 5},
		1:                  {0, 2, 63, 1, 4, 5, 3, 9},
		7:                  {0, 2, 63, 1, 4, 5, 3, 9},
		8:                  {1, 4, 5, 3, 9, 0, 2, 63},
		9:                  {4, 5, 3, 9, 0, 2, 63, 1},
		math.MaxUint64 - 1: {4, 5, 3, 9, 0, 2, 63, 1},
		math.MaxUint64:     {4, 5, 3, 9, 0, 2, 63, 1},
	} {
		lists(t, fmt.Sprintf("the order from %x on", place), slices.Collect(ring.nodesFrom(place)), order)
	}
}

// P14.2: Key

func TestKey(t *testing.T) {
	for _, c := range []struct {
		question api.Question
		want     string
	}{
		{api.Question{}, "\x00\x00\x00\x00"},
		{api.Question{Name: "\x00", Type: 1, Class: 1}, "\x00\x00\x01\x00\x01"},
		{api.Question{Name: "\x03wWw\x01A\x00", Type: api.TypeAAAA, Class: api.ClassIN}, "\x03www\x01a\x00\x00\x1c\x00\x01"},
		{api.Question{Name: "\x01a\x00", Type: 0x1234, Class: 0xfedc}, "\x01a\x00\x12\x34\xfe\xdc"},
		{api.Question{Name: "\x01a\x00", Type: 0xff00, Class: 0x00ff}, "\x01a\x00\xff\x00\x00\xff"},
		{api.Question{Name: "\x01a\x00", Type: 0x4142, Class: 0x5a41}, "\x01a\x00AB\x5a\x41"},
		{api.Question{Name: "\x06@AZ[`z\x00", Type: 65535, Class: 65535}, "\x06@az[`z\x00\xff\xff\xff\xff"},
		{api.Question{Name: "no name AT ALL", Type: 2}, "no name at all\x00\x02\x00\x00"},
		{api.Question{Name: "\xc1\xda\xff\x80", Class: 3}, "\xc1\xda\xff\x80\x00\x00\x00\x03"},
		{api.Question{Name: "ABC", Type: 256, Class: 256}, "abc\x01\x00\x01\x00"},
		{api.Question{Name: strings.Repeat("X", 100000)}, strings.Repeat("x", 100000) + "\x00\x00\x00\x00"},
	} {
		if got := Key(c.question); got != c.want {
			t.Errorf("Key of %.60q is %.60q, want %.60q", fmt.Sprint(c.question), got, c.want)
		}
	}
}

func TestKeyOfEachByte(t *testing.T) {
	for b := range 256 {
		low := b
		if b >= 65 && b <= 90 {
			low = b + 32
		}
		got := Key(api.Question{Name: string([]byte{'x', byte(b)}), Type: uint16(b), Class: uint16(256 * b)})
		if want := string([]byte{'x', byte(low), 0, byte(b), byte(b), 0}); got != want {
			t.Errorf("Key of the byte %x is %q, want %q", b, got, want)
		}
	}
}

// P14.2: Owner, Next, First

// mostOf are numbers about how many nodes there are, and far from it.
func mostOf(count int) []int {
	return []int{math.MinInt, -64, -1, 0, 1, 2, count - 1, count, count + 1, 63, 64, 65, 1 << 40, math.MaxInt}
}

func TestNext(t *testing.T) {
	for _, nodes := range someRings() {
		r, p := New(nodes...), plainRing(nodes...)
		for i, key := range someKeys() {
			if len(nodes) > 20 && i > 60 {
				break
			}
			order := p.order(hashed(key))
			for _, most := range mostOf(len(order)) {
				want := order[:max(0, min(most, len(order)))]
				lists(t, fmt.Sprintf("Next(%.20q, %d) of a ring of %v", key, most, nodes), r.Next(key, most), want)
			}
			owner := -1
			if len(order) > 0 {
				owner = order[0]
			}
			node, ok := r.Owner(key)
			answers(t, fmt.Sprintf("Owner(%.20q) of a ring of %v", key, nodes), node, ok, owner)
		}
	}
}

// firstByWords is First.
func firstByWords(order, alive []int) int {
	for _, node := range order {
		if slices.Contains(alive, node) {
			return node
		}
	}
	return -1
}

func TestFirst(t *testing.T) {
	rnd := rand.New(rand.NewSource(4))
	for _, nodes := range someRings() {
		r, p := New(nodes...), plainRing(nodes...)
		for _, key := range someKeys()[:60] {
			order := p.order(hashed(key))
			some := rnd.Perm(64)[:rnd.Intn(64)]
			far := []int{-1, 64, math.MinInt, math.MaxInt, 256, 1 << 32}
			for _, alive := range [][]int{nil, {}, nodes, some, some[:len(some)/4], append(some, some...), far, append(far, some...), rnd.Perm(64), rnd.Perm(64)[:1]} {
				node, ok := r.First(key, alive)
				answers(t, fmt.Sprintf("First(%.20q, %v) of a ring of %v", key, alive, nodes), node, ok, firstByWords(order, alive))
			}
			for i := range order {
				node, ok := r.First(key, order[i:])
				answers(t, "First of those that are left", node, ok, order[i])
			}
		}
	}
}

func TestFirstOfOthers(t *testing.T) {
	r := New(1, 3)
	for _, alive := range [][]int{{}, {2}, {0, 2, 4, 63}, {257, 259, -253}, {-1, 64}} {
		node, ok := r.First("key", alive)
		answers(t, fmt.Sprintf("First of a ring of 1 and 3 with %v", alive), node, ok, -1)
	}
	many := slices.Repeat([]int{7, -3, 99}, 100000)
	node, ok := r.First("key", append(many, 3))
	answers(t, "First with a long list", node, ok, 3)
}

// The hash of what a point is hashed of is that very point: the first one that is not less is this one, not that behind it.
func TestKeysAtPoints(t *testing.T) {
	all := New(rand.New(rand.NewSource(5)).Perm(64)...)
	for node := range 64 {
		for k := range 16 {
			got, ok := all.Owner(pointText(node, k))
			answers(t, fmt.Sprintf("Owner at point %d of %d", k, node), got, ok, node)
			lists(t, "Next of one there", all.Next(pointText(node, k), 1), []int{node})
			got, ok = all.First(pointText(node, k), []int{63 - node, node})
			answers(t, "First there", got, ok, node)
		}
	}
}

// About each point: one ahead of it, it, and one behind it; and at the ring's ends.
func TestPlacesAboutPoints(t *testing.T) {
	for _, nodes := range [][]int{{5}, {3, 1}, {0, 10, 20, 30, 63}} {
		r, p := New(nodes...), plainRing(nodes...)
		places := []uint64{0, 1, math.MaxUint64, math.MaxUint64 - 1, 1 << 63}
		for i := range r.Len() {
			place, _ := r.At(i)
			places = append(places, place-1, place, place+1)
		}
		for _, place := range places {
			lists(t, fmt.Sprintf("the order from %x on", place), slices.Collect(r.nodesFrom(place)), p.order(place))
		}
	}
}

// Of the keys behind the last point, the first point is the next one.
func TestKeysBehindTheLastPoint(t *testing.T) {
	r := New(5, 7, 9)
	first, owner := r.At(0)
	last, _ := r.At(r.Len() - 1)
	ahead, behind := 0, 0
	for i := range 5000 {
		key := fmt.Sprint("key", i)
		place := hashed(key)
		if place > first && place <= last {
			continue
		}
		if place > last {
			behind++
		} else {
			ahead++
		}
		node, ok := r.Owner(key)
		answers(t, "Owner outside of the points", node, ok, owner)
	}
	holds(t, "that there are such keys", ahead > 10 && behind > 10)
}

func TestExamples(t *testing.T) {
	for _, key := range someKeys() {
		node, ok := New(5).Owner(key)
		answers(t, "Owner of a ring of 5", node, ok, 5)
		node, ok = New().Owner(key)
		answers(t, "Owner of a ring of none", node, ok, -1)
	}
	r := New(3, 1, 3)
	lists(t, "Nodes", r.Nodes(), []int{1, 3})
	holds(t, "that Len is 32", r.Len() == 32)
}

func TestRingsWithoutNodes(t *testing.T) {
	for what, r := range noRings() {
		holds(t, what+": that there is no node and no point", len(r.Nodes()) == 0 && r.Len() == 0)
		for _, i := range []int{math.MinInt, -1, 0, 1, 16, math.MaxInt} {
			place, node := r.At(i)
			holds(t, what+": that there is no point", place == 0 && node == -1)
		}
		for _, key := range someKeys()[:20] {
			node, ok := r.Owner(key)
			answers(t, what+": Owner", node, ok, -1)
			for _, alive := range [][]int{nil, {0}, {-1}, {0, 1, 2, 63}} {
				node, ok = r.First(key, alive)
				answers(t, what+": First", node, ok, -1)
			}
			for _, most := range mostOf(0) {
				lists(t, what+": Next", r.Next(key, most), nil)
			}
		}
	}
}

// P14.3

func TestAddedAndRemovedNodes(t *testing.T) {
	rnd := rand.New(rand.NewSource(6))
	keys := someKeys()
	for _, nodes := range someRings() {
		r := New(nodes...)
		for range 3 {
			added := rnd.Intn(64)
			more := New(append([]int{added}, nodes...)...)
			there := slices.Contains(nodes, added)
			for _, key := range keys {
				less, _ := r.Owner(key)
				owner, ok := more.Owner(key)
				if !ok || owner != less && (owner != added || there) {
					t.Errorf("with %d beside %v, %.20q goes from %d to %d", added, nodes, key, less, owner)
				}
			}
		}
		for _, removed := range r.Nodes() {
			rest := New(slices.DeleteFunc(r.Nodes(), func(n int) bool { return n == removed })...)
			for _, key := range keys[:80] {
				before, _ := r.Owner(key)
				after, _ := rest.Owner(key)
				if (before == removed) != (before != after) {
					t.Errorf("without %d of %v, %.20q goes from %d to %d", removed, nodes, key, before, after)
				}
			}
		}
	}
}

// same tells of two rings that are not alike.
func same(t *testing.T, what string, a, b *Ring) {
	t.Helper()
	lists(t, what+": Nodes", a.Nodes(), b.Nodes())
	for i := -1; i <= max(a.Len(), b.Len()); i++ {
		p, m := a.At(i)
		q, n := b.At(i)
		holds(t, what+": that the points are the same", p == q && m == n)
	}
	for _, key := range someKeys()[:40] {
		lists(t, what+": Next", a.Next(key, 64), b.Next(key, 64))
		m, _ := a.First(key, []int{1, 2, 3, 30, 40, 50})
		n, _ := b.First(key, []int{50, 1, 40, 2, 30, 3})
		holds(t, what+": that First is the same", m == n)
	}
}

func TestTheOrderOfNodesDoesNotMatter(t *testing.T) {
	rnd := rand.New(rand.NewSource(7))
	for _, nodes := range someRings() {
		r := New(nodes...)
		mixed := append(slices.Clone(nodes), nodes...)
		for range 3 {
			rnd.Shuffle(len(mixed), func(i, j int) { mixed[i], mixed[j] = mixed[j], mixed[i] })
			same(t, "in another order", New(mixed...), r)
		}
	}
}

// R3: what is given is not changed and not kept, and what is answered is the caller's.

func TestNothingIsShared(t *testing.T) {
	nodes := []int{9, 64, 3, 3, -1, 12}
	before := slices.Clone(nodes)
	r := New(nodes...)
	lists(t, "what New was given", nodes, before)
	for i := range nodes {
		nodes[i] = 40 + i
	}
	same(t, "behind a change of what it was given", r, New(3, 9, 12))
	alive := []int{12, 3, 99, 12}
	r.First("key", alive)
	lists(t, "what First was given", alive, []int{12, 3, 99, 12})
	for _, answer := range [][]int{r.Nodes(), r.Next("key", 2), r.Next("key", 64)} {
		for i := range cap(answer) {
			answer[:cap(answer)][i] = -5
		}
	}
	same(t, "behind changes of what it answered", r, New(3, 9, 12))
	other := New(1, 2)
	same(t, "beside another one", r, New(3, 9, 12))
	same(t, "the other one", other, New(2, 1))
}

// R4: the same calls answer the same.
func TestTwiceTheSame(t *testing.T) {
	for _, nodes := range someRings() {
		same(t, "once more", New(nodes...), New(nodes...))
	}
}
