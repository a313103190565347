package net

import (
	"math"
	"math/rand"
	"runtime"
	"slices"
	"strings"
	"testing"
	"unsafe"

	"fingerpost/api"
)

// datagram is one, with its number.
func datagram(number, from, to int, body string) api.Item {
	return api.Item{Number: number, Kind: api.Datagram, From: from, To: to, Body: body}
}

// opened, piece and closed are items of a connection.
func opened(number, from, to, conn int) api.Item {
	return api.Item{Number: number, Kind: api.Opened, From: from, To: to, Conn: conn}
}

func piece(number, from, to, conn int, body string) api.Item {
	return api.Item{Number: number, Kind: api.Piece, From: from, To: to, Conn: conn, Body: body}
}

func closed(number, from, to, conn int) api.Item {
	return api.Item{Number: number, Kind: api.Closed, From: from, To: to, Conn: conn}
}

// ready tells of a network that has other ready items.
func ready(t *testing.T, what string, n *Net, want ...api.Item) {
	t.Helper()
	if got := n.Ready(); !slices.Equal(got, want) {
		t.Errorf("%s: ready are %v, want %v", what, got, want)
	}
}

// waits tells of a network that has another number of items in transit.
func waits(t *testing.T, what string, n *Net, want int) {
	t.Helper()
	if got := n.Waits(); got != want {
		t.Errorf("%s: %d items are in transit, want %d", what, got, want)
	}
}

// is tells of a call that answered another bool.
func is(t *testing.T, what string, got, want bool) {
	t.Helper()
	if got != want {
		t.Errorf("%s is %v", what, got)
	}
}

// takes tells of a network of which another item is taken.
func takes(t *testing.T, what string, n *Net, pick int, want api.Item) {
	t.Helper()
	if got, ok := n.Take(pick); got != want || !ok {
		t.Errorf("%s: Take(%d) is %v, %v, want %v", what, pick, got, ok, want)
	}
}

// takesNone tells of a network of which there is something to take.
func takesNone(t *testing.T, what string, n *Net) {
	t.Helper()
	for _, pick := range picks() {
		if got, ok := n.Take(pick); got != (api.Item{}) || ok {
			t.Errorf("%s: Take(%d) is %v, %v", what, pick, got, ok)
		}
	}
}

// opens tells of a connection that does not have the number.
func opens(t *testing.T, what string, n *Net, from, to, want int) {
	t.Helper()
	if got, ok := n.Open(from, to); got != want || ok != (want > 0) {
		t.Errorf("%s: Open(%d, %d) is %d, %v, want %d", what, from, to, got, ok, want)
	}
}

// peer tells of a connection with another end; -1 stands for none.
func peer(t *testing.T, what string, n *Net, conn, node, want int) {
	t.Helper()
	got, ok := n.Peer(conn, node)
	if ok != (want >= 0) || got != max(want, 0) {
		t.Errorf("%s: Peer(%d, %d) is %d, %v, want %d", what, conn, node, got, ok, want)
	}
}

// picks are numbers for a pick, with the greatest and the least.
func picks() []int {
	return []int{0, 1, 2, 7, -1, -2, -8, math.MaxInt, math.MinInt, math.MaxInt - 1, math.MinInt + 1}
}

// numbers are those of items.
func numbers(items []api.Item) []int {
	var out []int
	for _, i := range items {
		out = append(out, i.Number)
	}
	return out
}

// sent is a network with so many datagrams from 1 to 2, whose numbers begin at 1.
func sent(count int) *Net {
	n := New()
	for range count {
		n.Send(1, 2, "")
	}
	return n
}

// P8.1

func TestNewIsEmpty(t *testing.T) {
	n := New()
	if n == nil {
		t.Fatal("New is nil")
	}
	waits(t, "New", n, 0)
	ready(t, "New", n)
	takesNone(t, "New", n)
	peer(t, "New", n, 1, 1, -1)
	is(t, "Drop", n.Drop(0), false)
	is(t, "Double", n.Double(0), false)
	is(t, "Write", n.Write(1, 1, "a"), false)
	is(t, "Close", n.Close(1), false)
	if got := n.Lose(0); got != 0 {
		t.Errorf("Lose of an empty network is %d", got)
	}
	waits(t, "after calls without effect", n, 0)
	is(t, "Send", n.Send(1, 2, "a"), true)
	ready(t, "first item", n, datagram(1, 1, 2, "a"))
	opens(t, "first connection", n, 1, 2, 1)
}

func TestSend(t *testing.T) {
	n := New()
	is(t, "Send", n.Send(1, 2, "a"), true)
	is(t, "Send", n.Send(2, 1, ""), true)
	is(t, "Send to itself", n.Send(3, 3, "\x00\xff"), true)
	is(t, "Send with odd ends", n.Send(math.MinInt, math.MaxInt, "b"), true)
	is(t, "Send to 0", n.Send(-1, 0, "b"), true)
	is(t, "Send again", n.Send(1, 2, "a"), true)
	long := strings.Repeat("long", 1<<18)
	is(t, "Send of much", n.Send(1, 2, long), true)
	waits(t, "Send", n, 7)
	ready(t, "Send", n, datagram(1, 1, 2, "a"), datagram(2, 2, 1, ""), datagram(3, 3, 3, "\x00\xff"), datagram(4, math.MinInt, math.MaxInt, "b"), datagram(5, -1, 0, "b"), datagram(6, 1, 2, "a"), datagram(7, 1, 2, long))
}

func TestSendIsBehindAllOthers(t *testing.T) {
	n := New()
	n.Send(1, 2, "a")
	n.Open(3, 4)
	n.Send(5, 6, "b")
	n.Double(0)
	n.Send(7, 8, "c")
	ready(t, "order", n, datagram(1, 1, 2, "a"), opened(2, 3, 4, 1), datagram(3, 5, 6, "b"), datagram(4, 1, 2, "a"), datagram(5, 7, 8, "c"))
	takes(t, "order", n, 4, datagram(5, 7, 8, "c"))
	n.Send(9, 9, "d")
	ready(t, "a number is not used twice", n, datagram(1, 1, 2, "a"), opened(2, 3, 4, 1), datagram(3, 5, 6, "b"), datagram(4, 1, 2, "a"), datagram(6, 9, 9, "d"))
}

func TestNumbersAfterNothingIsLeft(t *testing.T) {
	n := New()
	for i := range 5 {
		n.Send(1, 2, "a")
		takes(t, "one by one", n, 0, datagram(3*i+1, 1, 2, "a"))
		n.Send(1, 2, "b")
		is(t, "Drop", n.Drop(0), true)
		n.Send(1, 2, "c")
		if got := n.Lose(2); got != 1 {
			t.Errorf("Lose is %d", got)
		}
	}
	waits(t, "nothing is left", n, 0)
}

func TestSendOfTooMany(t *testing.T) {
	n := New()
	for i := range api.MaxWaits {
		if !n.Send(1, 2, "a") {
			t.Fatalf("Send is false when %d are in transit", i)
		}
	}
	waits(t, "full", n, 1024)
	before := n.Ready()
	for range 3 {
		is(t, "Send when full", n.Send(1, 2, "b"), false)
	}
	ready(t, "Send when full", n, before...)
	takes(t, "full", n, 0, datagram(1, 1, 2, "a"))
	is(t, "Send when there is room", n.Send(3, 4, "c"), true)
	waits(t, "full again", n, 1024)
	takes(t, "refused ones have no number", n, -1, datagram(2, 1, 2, "a"))
	takes(t, "refused ones have no number", n, 1022, datagram(1025, 3, 4, "c"))
}

// P8.2: Open

func TestOpen(t *testing.T) {
	n := New()
	opens(t, "first", n, 1, 2, 1)
	opens(t, "the same ends", n, 1, 2, 2)
	opens(t, "the other direction", n, 2, 1, 3)
	opens(t, "odd ends", n, math.MinInt, math.MaxInt, 4)
	opens(t, "node 0", n, 0, -1, 5)
	waits(t, "Open", n, 5)
	ready(t, "Open", n, opened(1, 1, 2, 1), opened(2, 1, 2, 2), opened(3, 2, 1, 3), opened(4, math.MinInt, math.MaxInt, 4), opened(5, 0, -1, 5))
	peer(t, "Open", n, 1, 1, 2)
	peer(t, "Open", n, 1, 2, 1)
	peer(t, "Open", n, 3, 2, 1)
}

func TestOpenToItself(t *testing.T) {
	n := New()
	for _, node := range []int{0, 1, -1, math.MaxInt, math.MinInt} {
		opens(t, "to itself", n, node, node, 0)
	}
	waits(t, "to itself", n, 0)
	peer(t, "to itself", n, 1, 1, -1)
	opens(t, "refused ones have no number", n, 1, 2, 1)
	ready(t, "refused ones have no number", n, opened(1, 1, 2, 1))
}

func TestOpenOfTooManyConnections(t *testing.T) {
	n := New()
	for i := range api.MaxConns {
		opens(t, "many", n, 1, 2, i+1)
	}
	opens(t, "too many", n, 1, 2, 0)
	opens(t, "too many", n, 3, 4, 0)
	waits(t, "too many", n, 256)
	for range api.MaxConns {
		n.Take(0)
	}
	waits(t, "all have come", n, 0)
	opens(t, "connections stay when their Opened has come", n, 1, 2, 0)
	waits(t, "connections stay", n, 0)
	is(t, "Close", n.Close(100), true)
	opens(t, "there is room, and the number is new", n, 5, 6, 257)
	opens(t, "too many again", n, 5, 6, 0)
	peer(t, "a number is not used twice", n, 100, 1, -1)
	peer(t, "the new one", n, 257, 5, 6)
	if got := n.Lose(5); got != 1 {
		t.Errorf("Lose is %d", got)
	}
	opens(t, "there is room after Lose", n, 7, 8, 258)
}

func TestOpenWhenFull(t *testing.T) {
	n := sent(1023)
	opens(t, "there is room", n, 1, 2, 1)
	waits(t, "full", n, 1024)
	opens(t, "full", n, 1, 2, 0)
	peer(t, "full", n, 2, 1, -1)
	waits(t, "full", n, 1024)
	n.Take(0)
	opens(t, "refused ones have no number", n, 3, 4, 2)
	takes(t, "refused ones have no number", n, -1, datagram(2, 1, 2, ""))
	takes(t, "refused ones have no number", n, math.MaxInt%1023, n.Ready()[math.MaxInt%1023])
	all := n.Ready()
	if last := all[len(all)-1]; last != opened(1025, 3, 4, 2) {
		t.Errorf("the last item is %v", last)
	}
}

// P8.2: Write

func TestWrite(t *testing.T) {
	n := New()
	n.Open(1, 2)
	takes(t, "Open", n, 0, opened(1, 1, 2, 1))
	is(t, "Write by the first end", n.Write(1, 1, "ab"), true)
	is(t, "Write by the second end", n.Write(1, 2, "c"), true)
	waits(t, "Write", n, 2)
	ready(t, "Write", n, piece(2, 1, 2, 1, "ab"), piece(3, 2, 1, 1, "c"))
	is(t, "Write of nothing", n.Write(1, 2, ""), true)
	takes(t, "Write", n, 1, piece(3, 2, 1, 1, "c"))
	takes(t, "Write of nothing", n, 1, piece(4, 2, 1, 1, ""))
	takes(t, "Write", n, 1, piece(2, 1, 2, 1, "ab"))
}

func TestWriteIsOfItsConnection(t *testing.T) {
	n := New()
	n.Open(1, 2)
	n.Open(2, 3)
	n.Open(2, 1)
	for range 3 {
		n.Take(0)
	}
	for _, c := range [][2]int{{1, 3}, {1, 0}, {1, -1}, {2, 1}, {3, 3}, {0, 1}, {0, 0}, {4, 1}, {4, 2}, {-1, 1}, {math.MaxInt, 1}, {math.MinInt, 1}} {
		is(t, "Write elsewhere", n.Write(c[0], c[1], "x"), false)
	}
	waits(t, "Write elsewhere", n, 0)
	is(t, "Write", n.Write(2, 2, "a"), true)
	is(t, "Write", n.Write(3, 2, "b"), true)
	is(t, "Write", n.Write(1, 2, "c"), true)
	is(t, "Write", n.Write(2, 3, "d"), true)
	ready(t, "Write", n, piece(4, 2, 3, 2, "a"), piece(5, 2, 1, 3, "b"), piece(6, 2, 1, 1, "c"), piece(7, 3, 2, 2, "d"))
}

func TestWriteWhenFull(t *testing.T) {
	n := sent(1022)
	n.Open(1, 2)
	is(t, "Write when there is room", n.Write(1, 1, "a"), true)
	is(t, "Write when full", n.Write(1, 1, "b"), false)
	is(t, "Write when full", n.Write(1, 2, "b"), false)
	waits(t, "full", n, 1024)
	is(t, "Drop", n.Drop(0), true)
	is(t, "Write when there is room", n.Write(1, 2, "c"), true)
	all := n.Ready()
	if last := all[len(all)-1]; last != piece(1025, 2, 1, 1, "c") {
		t.Errorf("the last item is %v", last)
	}
}

func TestWriteAfterTheEnd(t *testing.T) {
	n := New()
	n.Open(1, 2)
	n.Close(1)
	is(t, "Write after Close", n.Write(1, 1, "a"), false)
	n.Open(1, 2)
	n.Lose(2)
	is(t, "Write after Lose", n.Write(2, 1, "a"), false)
	is(t, "Write after Lose", n.Write(2, 2, "a"), false)
	ready(t, "after the end", n, closed(5, 2, 1, 2))
}

// P8.2: Close

func TestClose(t *testing.T) {
	n := New()
	n.Send(1, 2, "d")
	n.Open(2, 1)
	n.Open(2, 1)
	n.Write(1, 2, "a")
	n.Write(2, 1, "b")
	n.Write(1, 1, "c")
	n.Send(2, 1, "e")
	is(t, "Close", n.Close(1), true)
	waits(t, "Close", n, 6)
	ready(t, "Close", n, datagram(1, 1, 2, "d"), opened(3, 2, 1, 2), piece(5, 1, 2, 2, "b"), datagram(7, 2, 1, "e"), closed(8, 1, 2, 1), closed(9, 2, 1, 1))
	peer(t, "Close", n, 1, 1, -1)
	peer(t, "Close", n, 1, 2, -1)
	peer(t, "Close", n, 2, 1, 2)
	is(t, "Close again", n.Close(1), false)
	waits(t, "Close again", n, 6)
	takes(t, "Close", n, 5, closed(9, 2, 1, 1))
	takes(t, "Close", n, 4, closed(8, 1, 2, 1))
}

func TestCloseOfNothing(t *testing.T) {
	n := New()
	n.Send(1, 2, "a")
	n.Open(1, 2)
	for _, conn := range []int{0, -1, 2, 3, math.MaxInt, math.MinInt} {
		is(t, "Close of nothing", n.Close(conn), false)
	}
	waits(t, "Close of nothing", n, 2)
	peer(t, "Close of nothing", n, 1, 1, 2)
	ready(t, "Close of nothing", n, datagram(1, 1, 2, "a"), opened(2, 1, 2, 1))
}

func TestCloseWhenFull(t *testing.T) {
	n := sent(1000)
	for range 24 {
		n.Open(3, 4)
	}
	waits(t, "full", n, 1024)
	for i := range 24 {
		is(t, "Close when full", n.Close(i+1), true)
		waits(t, "Close when full", n, 1025+i)
		is(t, "Send when over", n.Send(1, 2, "a"), false)
		opens(t, "Open when over", n, 1, 2, 0)
		is(t, "Double when over", n.Double(0), false)
	}
	all := n.Ready()
	for i := range 24 {
		if all[1000+2*i] != closed(1025+2*i, 4, 3, i+1) || all[1001+2*i] != closed(1026+2*i, 3, 4, i+1) {
			t.Errorf("the connection's end is told by %v, %v", all[1000+2*i], all[1001+2*i])
		}
	}
	for i := range 24 {
		takes(t, "over", n, 0, datagram(i+1, 1, 2, ""))
		is(t, "Send when over", n.Send(1, 2, "a"), false)
	}
	takes(t, "full", n, 0, datagram(25, 1, 2, ""))
	is(t, "Send when there is room", n.Send(1, 2, "a"), true)
	is(t, "Send when full", n.Send(1, 2, "a"), false)
}

func TestWriteWhenOver(t *testing.T) {
	n := sent(1022)
	n.Open(3, 4)
	n.Open(3, 4)
	n.Close(1)
	waits(t, "over", n, 1025)
	is(t, "Write when over", n.Write(2, 3, "a"), false)
	waits(t, "over", n, 1025)
}

// P8.2: Lose

func TestLose(t *testing.T) {
	n := New()
	n.Send(1, 2, "a")
	n.Send(2, 3, "b")
	n.Send(3, 1, "c")
	n.Send(1, 1, "d")
	n.Open(1, 2)
	n.Open(2, 3)
	n.Open(3, 1)
	n.Open(2, 1)
	n.Write(3, 1, "e")
	n.Write(3, 3, "f")
	n.Write(2, 3, "g")
	n.Write(1, 2, "h")
	if got := n.Lose(1); got != 9 {
		t.Errorf("Lose is %d", got)
	}
	waits(t, "Lose", n, 6)
	ready(t, "Lose", n, datagram(2, 2, 3, "b"), opened(6, 2, 3, 2), piece(11, 3, 2, 2, "g"), closed(13, 1, 2, 1), closed(14, 1, 3, 3), closed(15, 1, 2, 4))
	peer(t, "Lose", n, 1, 2, -1)
	peer(t, "Lose", n, 2, 2, 3)
	peer(t, "Lose", n, 3, 3, -1)
	peer(t, "Lose", n, 4, 1, -1)
	for _, conn := range []int{1, 3, 4} {
		is(t, "Close after Lose", n.Close(conn), false)
	}
	if got := n.Lose(1); got != 3 {
		t.Errorf("Lose again is %d", got)
	}
	waits(t, "Lose again", n, 3)
	if got := n.Lose(2); got != 3 {
		t.Errorf("Lose of the next one is %d", got)
	}
	ready(t, "Lose of the next one", n, closed(16, 2, 3, 2))
}

func TestLoseOfNobody(t *testing.T) {
	n := New()
	n.Send(1, 2, "a")
	n.Open(1, 2)
	for _, node := range []int{0, 3, -1, math.MaxInt, math.MinInt} {
		if got := n.Lose(node); got != 0 {
			t.Errorf("Lose(%d) is %d", node, got)
		}
	}
	waits(t, "Lose of nobody", n, 2)
	peer(t, "Lose of nobody", n, 1, 1, 2)
}

func TestLoseTakesTheEndsOfConnectionsToo(t *testing.T) {
	n := New()
	n.Open(1, 2)
	n.Open(3, 4)
	n.Close(1)
	n.Close(2)
	if got := n.Lose(2); got != 2 {
		t.Errorf("Lose is %d", got)
	}
	ready(t, "Lose", n, closed(5, 4, 3, 2), closed(6, 3, 4, 2))
	n.Open(3, 0)
	if got := n.Lose(0); got != 1 {
		t.Errorf("Lose of node 0 is %d", got)
	}
	ready(t, "Lose of node 0", n, closed(5, 4, 3, 2), closed(6, 3, 4, 2), closed(8, 0, 3, 3))
}

func TestLoseWhenFull(t *testing.T) {
	n := New()
	for range 256 {
		n.Open(1, 2)
	}
	for range 256 {
		n.Take(0)
	}
	for range 1024 {
		n.Send(3, 4, "")
	}
	if got := n.Lose(2); got != 0 {
		t.Errorf("Lose is %d", got)
	}
	waits(t, "Lose when full", n, 1280)
	all := n.Ready()
	for i := range 256 {
		if all[1024+i] != closed(1281+i, 2, 1, i+1) {
			t.Fatalf("the end of connection %d is told by %v", i+1, all[1024+i])
		}
	}
	is(t, "Send when over", n.Send(1, 2, "a"), false)
	if got := n.Lose(4); got != 1024 {
		t.Errorf("Lose of the others is %d", got)
	}
	waits(t, "Lose of the others", n, 256)
	is(t, "Send when there is room", n.Send(1, 2, "a"), true)
}

// P8.2: Peer

func TestPeer(t *testing.T) {
	n := New()
	n.Open(1, 2)
	n.Open(0, -7)
	for _, c := range [][3]int{{1, 1, 2}, {1, 2, 1}, {1, 0, -1}, {1, 3, -1}, {1, -7, -1}, {2, -7, 0}, {2, 1, -1}, {0, 0, -1}, {0, 1, -1}, {3, 1, -1}, {3, 0, -1}, {-1, 1, -1}, {math.MaxInt, 1, -1}, {math.MinInt, 1, -1}} {
		peer(t, "two connections", n, c[0], c[1], c[2])
	}
	if got, ok := n.Peer(2, 0); got != -7 || !ok {
		t.Errorf("Peer(2, 0) is %d, %v", got, ok)
	}
	waits(t, "Peer has no effect", n, 2)
	takes(t, "Peer", n, 0, opened(1, 1, 2, 1))
	peer(t, "the connection is there before and after it has come", n, 1, 2, 1)
}

// P8.3

func TestReadyIsInOrderOnEachWay(t *testing.T) {
	n := New()
	n.Open(1, 2)
	n.Write(1, 1, "a")
	n.Write(1, 2, "b")
	n.Write(1, 1, "c")
	n.Write(1, 2, "d")
	n.Send(1, 2, "e")
	n.Send(1, 2, "f")
	ready(t, "at first", n, opened(1, 1, 2, 1), piece(3, 2, 1, 1, "b"), datagram(6, 1, 2, "e"), datagram(7, 1, 2, "f"))
	waits(t, "at first", n, 7)
	takes(t, "the opening", n, 0, opened(1, 1, 2, 1))
	ready(t, "then", n, piece(2, 1, 2, 1, "a"), piece(3, 2, 1, 1, "b"), datagram(6, 1, 2, "e"), datagram(7, 1, 2, "f"))
	takes(t, "the other way", n, 1, piece(3, 2, 1, 1, "b"))
	ready(t, "then", n, piece(2, 1, 2, 1, "a"), piece(5, 2, 1, 1, "d"), datagram(6, 1, 2, "e"), datagram(7, 1, 2, "f"))
	takes(t, "this way", n, 0, piece(2, 1, 2, 1, "a"))
	ready(t, "then", n, piece(4, 1, 2, 1, "c"), piece(5, 2, 1, 1, "d"), datagram(6, 1, 2, "e"), datagram(7, 1, 2, "f"))
}

func TestReadyIsOfEachConnection(t *testing.T) {
	n := New()
	n.Open(1, 2)
	n.Open(3, 2)
	n.Open(2, 1)
	for conn, from := range []int{1, 3, 2} {
		n.Write(conn+1, from, "a")
	}
	ready(t, "three openings", n, opened(1, 1, 2, 1), opened(2, 3, 2, 2), opened(3, 2, 1, 3))
	takes(t, "the second", n, 1, opened(2, 3, 2, 2))
	ready(t, "its piece", n, opened(1, 1, 2, 1), opened(3, 2, 1, 3), piece(5, 3, 2, 2, "a"))
}

// mixed is a network with datagrams 1, 3 and 6, and with items 2, 4 and 5 of a connection of which 2 and 5 are ready.
func mixed() *Net {
	n := New()
	n.Send(1, 2, "a")
	n.Open(1, 2)
	n.Send(2, 1, "b")
	n.Write(1, 1, "c")
	n.Write(1, 2, "d")
	n.Send(3, 4, "e")
	return n
}

// at is where a pick is among so many, by the chapter's words.
func at(pick, of int) int {
	if pick >= 0 {
		return pick % of
	}
	return -(pick + 1) % of
}

func TestTake(t *testing.T) {
	all := mixed().Ready()
	if got := numbers(all); !slices.Equal(got, []int{1, 2, 3, 5, 6}) {
		t.Fatalf("ready are %v", got)
	}
	for pick := -23; pick < 23; pick++ {
		takes(t, "mixed", mixed(), pick, all[at(pick, 5)])
	}
	for pick, where := range map[int]int{0: 0, 4: 4, 5: 0, 6: 1, -1: 0, -2: 1, -5: 4, -6: 0, math.MaxInt: math.MaxInt % 5, math.MinInt: math.MaxInt % 5, math.MinInt + 1: (math.MaxInt - 1) % 5} {
		n := mixed()
		takes(t, "mixed", n, pick, all[where])
		waits(t, "mixed", n, 5)
		if slices.Contains(n.Ready(), all[where]) {
			t.Errorf("what Take(%d) answered is still ready", pick)
		}
	}
}

func TestTakeAll(t *testing.T) {
	n := mixed()
	for range 6 {
		if _, ok := n.Take(-2); !ok {
			t.Error("Take is false too early")
		}
	}
	waits(t, "all are taken", n, 0)
	ready(t, "all are taken", n)
	takesNone(t, "all are taken", n)
	is(t, "Drop when all are taken", n.Drop(0), false)
	is(t, "Double when all are taken", n.Double(0), false)
	is(t, "Write when all are taken", n.Write(1, 1, "f"), true)
	ready(t, "Write when all are taken", n, piece(7, 1, 2, 1, "f"))
}

func TestDrop(t *testing.T) {
	loose := []int{1, 3, 6}
	for _, pick := range append(picks(), 3, 4, 5, 6, -3, -4, -5, -6) {
		n := mixed()
		gone := loose[at(pick, 3)]
		want := slices.DeleteFunc(mixed().Ready(), func(i api.Item) bool { return i.Number == gone })
		is(t, "Drop", n.Drop(pick), true)
		ready(t, "Drop", n, want...)
		waits(t, "Drop", n, 5)
	}
	n := mixed()
	for range 3 {
		is(t, "Drop", n.Drop(1), true)
	}
	for _, pick := range picks() {
		is(t, "Drop when no datagram is left", n.Drop(pick), false)
	}
	waits(t, "Drop spares connections", n, 3)
	ready(t, "Drop spares connections", n, opened(2, 1, 2, 1), piece(5, 2, 1, 1, "d"))
}

func TestDouble(t *testing.T) {
	loose := []api.Item{datagram(1, 1, 2, "a"), datagram(3, 2, 1, "b"), datagram(6, 3, 4, "e")}
	for _, pick := range append(picks(), 3, 4, 5, 6, -3, -4, -5, -6) {
		n := mixed()
		twin := loose[at(pick, 3)]
		twin.Number = 7
		is(t, "Double", n.Double(pick), true)
		ready(t, "Double", n, append(mixed().Ready(), twin)...)
		waits(t, "Double", n, 7)
	}
	n := mixed()
	is(t, "Double", n.Double(0), true)
	is(t, "Double of the copy", n.Double(3), true)
	ready(t, "Double of the copy", n, append(mixed().Ready(), datagram(7, 1, 2, "a"), datagram(8, 1, 2, "a"))...)
	takes(t, "the first of them", n, 0, datagram(1, 1, 2, "a"))
	is(t, "a copy stays when the other was taken", n.Drop(2), true)
	is(t, "Double of what is left", n.Double(-3), true)
	all := n.Ready()
	if last := all[len(all)-1]; last != datagram(9, 1, 2, "a") {
		t.Errorf("the last item is %v", last)
	}
}

func TestDoubleOfConnections(t *testing.T) {
	n := New()
	n.Open(1, 2)
	n.Write(1, 2, "a")
	for _, pick := range picks() {
		is(t, "Double of connections", n.Double(pick), false)
	}
	n.Close(1)
	is(t, "Double of a connection's end", n.Double(0), false)
	is(t, "Drop of a connection's end", n.Drop(0), false)
	waits(t, "Double of connections", n, 2)
	n.Send(1, 2, "b")
	ready(t, "no number is used up", n, closed(3, 2, 1, 1), closed(4, 1, 2, 1), datagram(5, 1, 2, "b"))
}

func TestDoubleWhenFull(t *testing.T) {
	n := sent(1023)
	is(t, "Double when there is room", n.Double(5), true)
	is(t, "Double when full", n.Double(5), false)
	waits(t, "full", n, 1024)
	n.Take(0)
	is(t, "Double when there is room", n.Double(0), true)
	all := n.Ready()
	if last := all[len(all)-1]; last != datagram(1025, 1, 2, "") {
		t.Errorf("the last item is %v", last)
	}
}

func TestWaits(t *testing.T) {
	n := New()
	for i, call := range []func(){
		func() { n.Send(1, 2, "a") },
		func() { n.Open(1, 2) },
		func() { n.Write(1, 1, "b") },
		func() { n.Write(1, 1, "c") },
		func() { n.Double(0) },
	} {
		call()
		waits(t, "one more", n, i+1)
	}
	n.Drop(0)
	waits(t, "Drop", n, 4)
	n.Take(0)
	waits(t, "Take", n, 3)
	n.Close(1)
	waits(t, "Close", n, 3)
	n.Send(1, 3, "d")
	n.Lose(2)
	waits(t, "Lose", n, 1)
}

func TestNil(t *testing.T) {
	var n *Net
	is(t, "Send", n.Send(1, 2, "a"), false)
	opens(t, "nil", n, 1, 2, 0)
	is(t, "Write", n.Write(1, 1, "a"), false)
	is(t, "Close", n.Close(1), false)
	if got := n.Lose(1); got != 0 {
		t.Errorf("Lose is %d", got)
	}
	ready(t, "nil", n)
	takesNone(t, "nil", n)
	is(t, "Drop", n.Drop(0), false)
	is(t, "Double", n.Double(0), false)
	peer(t, "nil", n, 1, 1, -1)
	peer(t, "nil", n, 0, 0, -1)
	waits(t, "nil", n, 0)
}

// Rules

func TestZeroIsNew(t *testing.T) {
	for seed := range int64(30) {
		r := rand.New(rand.NewSource(seed))
		zero, made := &Net{}, New()
		for range 300 {
			c := anyCall(r)
			if got, want := c.of(zero), c.of(made); got != want {
				t.Fatalf("%v of a zero network is %v, of a new one %v", c, got, want)
			}
			if !slices.Equal(zero.Ready(), made.Ready()) {
				t.Fatalf("after %v, ready are %v, want %v", c, zero.Ready(), made.Ready())
			}
		}
	}
}

func TestReadyBelongsToTheCaller(t *testing.T) {
	n := mixed()
	before := n.Ready()
	want := slices.Clone(before)
	again := n.Ready()
	clear(again[:cap(again)])
	_ = append(again[:0], datagram(9, 9, 9, "x"))
	ready(t, "after a change of what was answered", n, want...)
	n.Close(1)
	n.Lose(1)
	n.Send(8, 8, "y")
	n.Send(8, 8, "z")
	if !slices.Equal(before, want) {
		t.Errorf("what was answered is now %v, was %v", before, want)
	}
}

func TestBodyIsNotShared(t *testing.T) {
	memory := []byte("abcdef")
	piece := unsafe.String(&memory[0], len(memory))
	n := New()
	n.Send(1, 2, piece)
	n.Open(1, 2)
	n.Take(1)
	n.Write(1, 1, piece)
	memory[0] = 'x'
	takes(t, "a datagram", n, 0, datagram(1, 1, 2, "abcdef"))
	memory[1] = 'y'
	if got, _ := n.Take(0); got.Body != "abcdef" {
		t.Errorf("the bytes on a connection are now %q", got.Body)
	}
}

// filled is a network whose bodies have many bytes, at many places.
func filled() *Net {
	n := New()
	n.Open(1, 2)
	for range 64 {
		n.Send(1, 2, strings.Repeat("a", 1<<16))
		n.Send(1, 3, "")
		n.Write(1, 1, strings.Repeat("b", 1<<16))
		n.Write(1, 2, strings.Repeat("c", 1<<16))
	}
	return n
}

// held is how many bytes of memory are in use.
func held() uint64 {
	var m runtime.MemStats
	runtime.GC()
	runtime.ReadMemStats(&m)
	return m.HeapAlloc
}

func TestBodiesAreLetGo(t *testing.T) {
	for what, empty := range map[string]func(n *Net){
		"Take":  func(n *Net) { n.Take(0); n.Take(0); take(n, 1<<10) },
		"Lose":  func(n *Net) { n.Lose(1) },
		"Close": func(n *Net) { n.Close(1); drop(n, 64<<1) },
	} {
		before := held()
		n := filled()
		if held() < before+100<<16 {
			t.Fatal("too little is held for this test")
		}
		empty(n)
		if after := held(); after > before+20<<16 {
			t.Errorf("%s: of what is gone, %d bytes are still held", what, after-before)
		}
		runtime.KeepAlive(n)
	}
}

// take takes so many items, and drop drops so many datagrams.
func take(n *Net, count int) {
	for i := range count {
		n.Take(i)
	}
}

func drop(n *Net, count int) {
	for i := range count {
		n.Drop(i)
	}
}

func TestNetworksAreApart(t *testing.T) {
	a, b := New(), New()
	a.Send(1, 2, "a")
	a.Open(1, 2)
	waits(t, "the other one", b, 0)
	peer(t, "the other one", b, 1, 1, -1)
	opens(t, "the other one", b, 3, 4, 1)
	ready(t, "the other one", b, opened(1, 3, 4, 1))
	b.Lose(1)
	waits(t, "the first one", a, 2)
}

// call is one of a network's functions, and what it is called with.
type call struct {
	what, a, b int
	body       string
}

// answer is what a call answers, all put together.
type answer struct {
	item  api.Item
	count int
	ok    bool
}

// of makes a call.
func (c call) of(n interface {
	Send(from, to int, body string) bool
	Open(from, to int) (int, bool)
	Write(conn, from int, body string) bool
	Close(conn int) bool
	Lose(node int) int
	Take(pick int) (api.Item, bool)
	Drop(pick int) bool
	Double(pick int) bool
	Peer(conn, node int) (int, bool)
	Waits() int
}) answer {
	var out answer
	switch c.what {
	case 0, 1, 2:
		out.ok = n.Send(c.a, c.b, c.body)
	case 3, 4:
		out.count, out.ok = n.Open(c.a, c.b)
	case 5, 6, 7, 8:
		out.ok = n.Write(c.b, c.a, c.body)
	case 9:
		out.ok = n.Close(c.b)
	case 10:
		out.count = n.Lose(c.a)
	case 11, 12, 13, 14:
		out.item, out.ok = n.Take(c.a)
	case 15:
		out.ok = n.Drop(c.a)
	case 16:
		out.ok = n.Double(c.a)
	case 17:
		out.count, out.ok = n.Peer(c.b, c.a)
	default:
		out.count = n.Waits()
	}
	return out
}

// anyCall is a call by chance; its numbers are small, so that nodes and connections meet often.
func anyCall(r *rand.Rand) call {
	return call{r.Intn(19), r.Intn(6) - 1, r.Intn(9), string(rune('a' + r.Intn(26)))}
}

// model is a network by the chapter's words alone: all items that there ever were, and all connections.
type model struct {
	items []api.Item
	gone  []bool
	ends  [][2]int
	over  []bool
}

func (m *model) Waits() int {
	count := 0
	for _, gone := range m.gone {
		if !gone {
			count++
		}
	}
	return count
}

func (m *model) create(i api.Item) bool {
	i.Number = len(m.items) + 1
	m.items, m.gone = append(m.items, i), append(m.gone, false)
	return true
}

func (m *model) exists(conn int) bool {
	return conn >= 1 && conn <= len(m.ends) && !m.over[conn-1]
}

func (m *model) Send(from, to int, body string) bool {
	return m.Waits() < 1024 && m.create(datagram(0, from, to, body))
}

func (m *model) Open(from, to int) (int, bool) {
	there := 0
	for conn := range m.ends {
		if m.exists(conn + 1) {
			there++
		}
	}
	if there == 256 || m.Waits() >= 1024 || from == to {
		return 0, false
	}
	m.ends, m.over = append(m.ends, [2]int{from, to}), append(m.over, false)
	return len(m.ends), m.create(opened(0, from, to, len(m.ends)))
}

func (m *model) Peer(conn, node int) (int, bool) {
	switch {
	case !m.exists(conn):
		return 0, false
	case m.ends[conn-1][0] == node:
		return m.ends[conn-1][1], true
	case m.ends[conn-1][1] == node:
		return m.ends[conn-1][0], true
	}
	return 0, false
}

func (m *model) Write(conn, from int, body string) bool {
	to, ok := m.Peer(conn, from)
	return ok && m.Waits() < 1024 && m.create(piece(0, from, to, conn, body))
}

func (m *model) Close(conn int) bool {
	if !m.exists(conn) {
		return false
	}
	for k, i := range m.items {
		if i.Kind != api.Datagram && i.Conn == conn {
			m.gone[k] = true
		}
	}
	m.over[conn-1] = true
	from, to := m.ends[conn-1][0], m.ends[conn-1][1]
	return m.create(closed(0, to, from, conn)) && m.create(closed(0, from, to, conn))
}

func (m *model) Lose(node int) int {
	count := 0
	for k, i := range m.items {
		if !m.gone[k] && (i.From == node || i.To == node) {
			m.gone[k] = true
			count++
		}
	}
	for conn := 1; conn <= len(m.ends); conn++ {
		if to, ok := m.Peer(conn, node); ok {
			m.over[conn-1] = true
			m.create(closed(0, node, to, conn))
		}
	}
	return count
}

func (m *model) Ready() []api.Item {
	var out []api.Item
	for k, i := range m.items {
		first := !m.gone[k]
		for l, j := range m.items[:k] {
			if !m.gone[l] && i.Kind != api.Datagram && j.Kind != api.Datagram && j.Conn == i.Conn && j.To == i.To {
				first = false
			}
		}
		if first {
			out = append(out, i)
		}
	}
	return out
}

func (m *model) loose() []api.Item {
	var out []api.Item
	for k, i := range m.items {
		if !m.gone[k] && i.Kind == api.Datagram {
			out = append(out, i)
		}
	}
	return out
}

func (m *model) Take(pick int) (api.Item, bool) {
	all := m.Ready()
	if len(all) == 0 {
		return api.Item{}, false
	}
	out := all[at(pick, len(all))]
	m.gone[out.Number-1] = true
	return out, true
}

func (m *model) Drop(pick int) bool {
	all := m.loose()
	if len(all) == 0 {
		return false
	}
	m.gone[all[at(pick, len(all))].Number-1] = true
	return true
}

func (m *model) Double(pick int) bool {
	all := m.loose()
	return len(all) > 0 && m.Waits() < 1024 && m.create(all[at(pick, len(all))])
}

func TestAnyCalls(t *testing.T) {
	for seed := range int64(200) {
		r := rand.New(rand.NewSource(seed))
		n, m := New(), &model{}
		for range 200 {
			c := anyCall(r)
			if got, want := c.of(n), c.of(m); got != want {
				t.Fatalf("%v is %v, want %v", c, got, want)
			}
			if got, want := n.Ready(), m.Ready(); !slices.Equal(got, want) {
				t.Fatalf("after %v, ready are %v, want %v", c, got, want)
			}
			if got, want := n.Waits(), m.Waits(); got != want {
				t.Fatalf("after %v, %d items are in transit, want %d", c, got, want)
			}
		}
		for conn := range 40 {
			for node := -2; node < 7; node++ {
				got, ok := n.Peer(conn, node)
				if want, there := m.Peer(conn, node); got != want || ok != there {
					t.Fatalf("Peer(%d, %d) is %d, %v, want %d, %v", conn, node, got, ok, want, there)
				}
			}
		}
	}
}

func TestAnyCallsWhenFull(t *testing.T) {
	for seed := range int64(5) {
		r := rand.New(rand.NewSource(seed))
		n, m := New(), &model{}
		for range 2 {
			for range 256 {
				n.Open(0, 1)
				m.Open(0, 1)
			}
			for range 600 {
				n.Send(2, 3, "a")
				m.Send(2, 3, "a")
			}
		}
		for range 100 {
			c := anyCall(r)
			c.b *= r.Intn(50)
			if c.what == 10 {
				c.a = 7
			}
			if got, want := c.of(n), c.of(m); got != want {
				t.Fatalf("%v is %v, want %v", c, got, want)
			}
			if got, want := n.Waits(), m.Waits(); got != want {
				t.Fatalf("after %v, %d items are in transit, want %d", c, got, want)
			}
		}
		if got, want := n.Ready(), m.Ready(); !slices.Equal(got, want) {
			t.Fatal("other items are ready")
		}
	}
}

func TestSameCallsHaveSameResults(t *testing.T) {
	var calls []call
	r := rand.New(rand.NewSource(1))
	for range 500 {
		calls = append(calls, anyCall(r))
	}
	run := func() []answer {
		var out []answer
		n := New()
		for _, c := range calls {
			out = append(out, c.of(n))
			for _, i := range n.Ready() {
				out = append(out, answer{item: i})
			}
		}
		return out
	}
	first := run()
	for range 5 {
		if !slices.Equal(run(), first) {
			t.Fatal("the same calls have other results")
		}
	}
}

// P8.4

// line is one direction of a connection: what was written on it, what has arrived, and if its end has.
type line struct {
	written, arrived []string
	ended            bool
}

// lines are all of them, by connection and by the end at which it arrives.
type lines map[[2]int]*line

func (l lines) of(conn, to int) *line {
	k := [2]int{conn, to}
	if l[k] == nil {
		l[k] = &line{}
	}
	return l[k]
}

// arrives looks at an item that has arrived at an end of a connection.
func (l lines) arrives(t *testing.T, i api.Item) {
	at := l.of(i.Conn, i.To)
	if at.ended {
		t.Fatalf("%v arrives after a Closed", i)
	}
	if i.Kind == api.Closed {
		at.ended = true
		return
	}
	at.arrived = append(at.arrived, i.Body)
	if k := len(at.arrived); k > len(at.written) || !slices.Equal(at.arrived, at.written[:k]) {
		t.Fatalf("%v arrives: %q, of %q", i, at.arrived, at.written)
	}
}

func TestWhatArrives(t *testing.T) {
	for seed := range int64(200) {
		r := rand.New(rand.NewSource(seed))
		n, ways, spare := New(), lines{}, map[api.Item]int{}
		for k := range 400 {
			c := anyCall(r)
			c.body = strings.Repeat(c.body, k%3) + string(rune(k))
			before := n.Ready()
			to, _ := n.Peer(c.b, c.a)
			got := c.of(n)
			switch {
			case c.what < 3 && got.ok:
				spare[datagram(0, c.a, c.b, c.body)]++
			case c.what < 5 && got.ok:
				at := ways.of(got.count, c.b)
				at.written = append(at.written, "")
			case c.what >= 5 && c.what < 9 && got.ok:
				at := ways.of(c.b, to)
				at.written = append(at.written, c.body)
			case c.what == 16 && got.ok:
				all := slices.DeleteFunc(before, func(i api.Item) bool { return i.Kind != api.Datagram })
				twin := all[at(c.a, len(all))]
				twin.Number = 0
				spare[twin]++
			case got.item.Kind == api.Datagram:
				got.item.Number = 0
				if spare[got.item]--; spare[got.item] < 0 {
					t.Fatalf("%v arrives too often", got.item)
				}
			case got.ok && c.what >= 11 && c.what < 15:
				ways.arrives(t, got.item)
			}
		}
	}
}

func TestNothingArrivesAfterTheEnd(t *testing.T) {
	for name, end := range map[string]func(n *Net){"Close": func(n *Net) { n.Close(1) }, "Lose": func(n *Net) { n.Lose(2) }} {
		n := New()
		n.Open(1, 2)
		n.Write(1, 1, "a")
		n.Write(1, 2, "b")
		n.Write(1, 2, "c")
		takes(t, name, n, 1, piece(3, 2, 1, 1, "b"))
		end(n)
		is(t, name+", then Write", n.Write(1, 2, "d"), false)
		takes(t, name, n, 0, closed(5, 2, 1, 1))
		n.Take(0)
		takesNone(t, name, n)
	}
}

// The chapter's examples

func TestExamples(t *testing.T) {
	n := New()
	n.Send(1, 2, "a")
	n.Send(2, 1, "b")
	takes(t, "example", n, 1, datagram(2, 2, 1, "b"))
	takes(t, "example", n, 0, datagram(1, 1, 2, "a"))
	takesNone(t, "example", n)
	n = New()
	opens(t, "example", n, 1, 2, 1)
	is(t, "example's Write", n.Write(1, 1, "x"), true)
	is(t, "example's Write", n.Write(1, 1, "y"), true)
	ready(t, "example", n, opened(1, 1, 2, 1))
	is(t, "example's Close", n.Close(1), true)
	ready(t, "example", n, closed(4, 2, 1, 1), closed(5, 1, 2, 1))
}
