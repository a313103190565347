package conf

import (
	"encoding/binary"
	"fmt"
	"math"
	"math/rand"
	"slices"
	"strings"
	"testing"
	"unsafe"

	"fingerpost/api"
)

// gives tells of a call that returned another error.
func gives(t *testing.T, what string, got, want api.Errno) {
	t.Helper()
	if got != want {
		t.Errorf("%s is %d, want %d", what, got, want)
	}
}

// holds tells of what should hold and does not.
func holds(t *testing.T, what string, ok bool) {
	t.Helper()
	if !ok {
		t.Errorf("%s does not hold", what)
	}
}

// show is a value as a short text, its strings quoted.
func show(v any) string {
	text := fmt.Sprintf("%#v", v)
	return text[:min(len(text), 900)]
}

// x is n bytes.
func x(n int) string {
	return strings.Repeat("x", n)
}

// raw puts a name together, whose labels may be wrong, and which may be too long.
func raw(labels ...string) string {
	n := ""
	for _, l := range labels {
		n += string([]byte{byte(len(l))}) + l
	}
	return n + "\x00"
}

// dotted is the name of a text, of which each label ends with a dot.
func dotted(text string) string {
	if text == "." {
		return "\x00"
	}
	labels := strings.Split(text, ".")
	return raw(labels[:len(labels)-1]...)
}

// long is a name of so many bytes, from 195 to 255.
func long(size int) string {
	return raw(x(63), x(63), x(63), x(size-194))
}

// labelsOf are the labels of a name by chapter 3's words, and whether it is one.
func labelsOf(n string) ([]string, bool) {
	if len(n) > 255 {
		return nil, false
	}
	var labels []string
	for n != "" && n[0] >= 1 && n[0] <= 63 && len(n) > int(n[0]) {
		labels = append(labels, n[1:1+n[0]])
		n = n[1+n[0]:]
	}
	return labels, n == "\x00"
}

// named tells whether a string is a name by chapter 3's words.
func named(n string) bool {
	_, ok := labelsOf(n)
	return ok
}

// lowered is the lower-case form of each byte by chapter 3's words.
func lowered(n string) string {
	var out []byte
	for i := range len(n) {
		b := n[i]
		if b >= 65 && b <= 90 {
			b += 32
		}
		out = append(out, b)
	}
	return string(out)
}

// in tells whether a name is under a zone by chapter 3's words.
func in(n, zone string) bool {
	a, ok := labelsOf(lowered(n))
	b, there := labelsOf(lowered(zone))
	return ok && there && len(a) >= len(b) && slices.Equal(a[len(a)-len(b):], b)
}

// sameOrder tells if two orders are the same.
func sameOrder(a, b api.Order) bool {
	return a.Kind == b.Kind && a.Node == b.Node && a.Name == b.Name && a.Text == b.Text && a.Zone == b.Zone && slices.Equal(a.Hints, b.Hints)
}

// sameConf tells if two configurations are the same.
func sameConf(a, b api.Conf) bool {
	return slices.Equal(a.Ring, b.Ring) && slices.Equal(a.Hints, b.Hints) && slices.Equal(a.Anchors, b.Anchors) && a.Epoch == b.Epoch && slices.Equal(a.Flushes, b.Flushes)
}

// isConf tells of another configuration.
func isConf(t *testing.T, what string, got, want api.Conf) {
	t.Helper()
	if !sameConf(got, want) {
		t.Fatalf("%s is %s, want %s", what, show(got), show(want))
	}
}

// copyOf is a configuration in other memory, with room behind its lists, where something else stands.
func copyOf(c api.Conf) api.Conf {
	return api.Conf{
		Ring:    append(slices.Clone(c.Ring), -7, -8)[:len(c.Ring)],
		Hints:   append(slices.Clone(c.Hints), "room", "room")[:len(c.Hints)],
		Anchors: append(slices.Clone(c.Anchors), api.Anchor{Name: "room"}, api.Anchor{})[:len(c.Anchors)],
		Epoch:   c.Epoch,
		Flushes: append(slices.Clone(c.Flushes), api.Flush{Zone: "room"}, api.Flush{})[:len(c.Flushes)],
	}
}

// spoil overwrites the lists of a configuration, and what has room behind them.
func spoil(c api.Conf) {
	for i := range cap(c.Ring) {
		c.Ring[:cap(c.Ring)][i] = -9
	}
	for i := range cap(c.Hints) {
		c.Hints[:cap(c.Hints)][i] = "spoilt"
	}
	for i := range cap(c.Anchors) {
		c.Anchors[:cap(c.Anchors)][i] = api.Anchor{Name: "spoilt"}
	}
	for i := range cap(c.Flushes) {
		c.Flushes[:cap(c.Flushes)][i] = api.Flush{Epoch: -9, Zone: "spoilt"}
	}
}

// Orders of each kind.

func joins(node int) api.Order            { return api.Order{Kind: 1, Node: node} }
func leaves(node int) api.Order           { return api.Order{Kind: 2, Node: node} }
func hints(list ...string) api.Order      { return api.Order{Kind: 3, Hints: list} }
func anchors(name, text string) api.Order { return api.Order{Kind: 4, Name: name, Text: text} }
func flushes(zone string) api.Order       { return api.Order{Kind: 5, Zone: zone} }

// P13.1: Check

// checkByWords is Check, condition by condition as the chapter lists them.
func checkByWords(o api.Order) api.Errno {
	if o.Kind < 1 || o.Kind > 5 || o.Node < 0 || o.Node > 63 {
		return api.ErrArg
	}
	wrong := false
	switch o.Kind {
	case 1, 2:
		wrong = o.Name != "" || o.Text != "" || o.Zone != "" || len(o.Hints) > 0
	case 3:
		wrong = o.Node != 0 || o.Name != "" || o.Text != "" || o.Zone != "" || len(o.Hints) == 0 || len(o.Hints) > 13
		for _, h := range o.Hints {
			wrong = wrong || len(h) != 4
		}
	case 4:
		wrong = o.Node != 0 || !named(o.Name) || len(o.Text) > 200 || o.Zone != "" || len(o.Hints) > 0
	case 5:
		wrong = o.Node != 0 || !named(o.Zone) || o.Name != "" || o.Text != "" || len(o.Hints) > 0
	}
	if wrong {
		return api.ErrArg
	}
	return api.OK
}

// bytesByWords are the Bytes of a right order.
func bytesByWords(o api.Order) string {
	out := []byte{byte(o.Kind)}
	if o.Kind <= 2 {
		out = append(out, byte(o.Node))
	}
	for _, h := range o.Hints {
		out = append(out, h...)
	}
	return string(out) + o.Name + o.Text + o.Zone
}

// someNames are some that are names, and some that are none.
func someNames() []string {
	return []string{"", "\x00", dotted("a."), dotted("A.b."), long(255), long(256), "\x01a", "a", "\x01a\x00\x00", raw("a", ""), "\x40" + x(64) + "\x00", "\xc0\x00"}
}

// eachOrder visits all orders that have one of some values in each field.
func eachOrder(visit func(o api.Order)) {
	kinds := []int{math.MinInt, -1, 0, 1, 2, 3, 4, 5, 6, 255, 257, 260, 1<<32 + 4, math.MaxInt}
	nodes := []int{math.MinInt, -1, 0, 1, 63, 64, 256, 1 << 32, math.MaxInt}
	lists := [][]string{nil, {}, {""}, {"1234"}, {"123"}, {"12345"}, slices.Repeat([]string{"abcd"}, 13), slices.Repeat([]string{"abcd"}, 14)}
	for _, kind := range kinds {
		for _, node := range nodes {
			for _, name := range someNames() {
				for _, text := range []string{"", "t", x(200), x(201)} {
					for _, zone := range someNames() {
						for _, list := range lists {
							visit(api.Order{Kind: kind, Node: node, Name: name, Text: text, Zone: zone, Hints: list})
						}
					}
				}
			}
		}
	}
}

func TestCheck(t *testing.T) {
	right := 0
	eachOrder(func(o api.Order) {
		want := checkByWords(o)
		if got := Check(o); got != want {
			t.Fatalf("Check of %s is %d, want %d", show(o), got, want)
		}
		if want == api.OK {
			right++
		}
	})
	if right != 2*3*2+2+4*3*2+4*2 { // no hints as nil and as an empty list count apart
		t.Errorf("%d right orders", right)
	}
}

func TestCheckOfNodes(t *testing.T) {
	for node := -2; node <= 66; node++ {
		want := api.OK
		if node < 0 || node > 63 {
			want = api.ErrArg
		}
		gives(t, "Check of a Join", Check(joins(node)), want)
		gives(t, "Check of a Leave", Check(leaves(node)), want)
	}
}

func TestCheckOfHints(t *testing.T) {
	for count := range 20 {
		want := api.ErrArg
		if count >= 1 && count <= 13 {
			want = api.OK
		}
		gives(t, "Check of Hints", Check(hints(slices.Repeat([]string{"\x00\xff\x00\xff"}, count)...)), want)
		for at := range count {
			for _, wrong := range []string{"", "1", "12", "123", "12345", "12345678", x(256 + 4), x(1 << 16)} {
				list := slices.Repeat([]string{"1234"}, count)
				list[at] = wrong
				gives(t, "Check of a wrong hint", Check(hints(list...)), api.ErrArg)
			}
		}
	}
	gives(t, "Check of very many hints", Check(hints(slices.Repeat([]string{"1234"}, 1<<20)...)), api.ErrArg)
}

func TestCheckOfTexts(t *testing.T) {
	for size := range 300 {
		want := api.OK
		if size > 200 {
			want = api.ErrArg
		}
		gives(t, "Check of a Text", Check(anchors(dotted("a."), x(size))), want)
	}
	gives(t, "Check of any bytes", Check(anchors("\x00", "\x00\xff\n")), api.OK)
	gives(t, "Check of a long Text", Check(anchors("\x00", x(1<<20))), api.ErrArg)
}

func TestCheckOfLongNames(t *testing.T) {
	for size := 196; size <= 257; size++ {
		want := api.OK
		if size > 255 {
			want = api.ErrArg
		}
		gives(t, "Check of a Name", Check(anchors(long(size), "t")), want)
		gives(t, "Check of a Zone", Check(flushes(long(size))), want)
	}
	many := strings.Repeat("\x01a", 1<<20) + "\x00"
	gives(t, "Check of a Name of many labels", Check(anchors(many, "")), api.ErrArg)
	gives(t, "Check of a Zone of many labels", Check(flushes(many)), api.ErrArg)
}

// P13.1: Bytes and Read

func TestBytes(t *testing.T) {
	for _, c := range []struct {
		o    api.Order
		want string
	}{
		{joins(3), "\x01\x03"},
		{flushes(dotted("a.")), "\x05\x01\x61\x00"},
		{joins(0), "\x01\x00"},
		{joins(63), "\x01\x3f"},
		{leaves(0), "\x02\x00"},
		{leaves(10), "\x02\x0a"},
		{hints("abcd"), "\x03abcd"},
		{hints("abcd", "\x00\x01\xfe\xff", "abcd"), "\x03abcd\x00\x01\xfe\xffabcd"},
		{anchors("\x00", ""), "\x04\x00"},
		{anchors("\x00", "\x00"), "\x04\x00\x00"},
		{anchors("\x01A\x02bC\x00", "Text"), "\x04\x01A\x02bC\x00Text"},
		{flushes("\x00"), "\x05\x00"},
		{flushes("\x01A\x02bC\x00"), "\x05\x01A\x02bC\x00"}, // not in lower case
		{api.Order{Kind: 1, Node: 2, Hints: []string{}}, "\x01\x02"},
	} {
		if got, err := Bytes(c.o); got != c.want || err != api.OK {
			t.Errorf("Bytes of %s is %q, %d, want %q", show(c.o), got, err, c.want)
		}
	}
}

func TestBytesAndRead(t *testing.T) {
	eachOrder(func(o api.Order) {
		want, wrong := "", checkByWords(o)
		if wrong == api.OK {
			want = bytesByWords(o)
		}
		got, err := Bytes(o)
		if got != want || err != wrong {
			t.Fatalf("Bytes of %s is %q, %d, want %q, %d", show(o), got, err, want, wrong)
		}
		if err == api.OK {
			if back, err := Read(got); !sameOrder(back, o) || err != api.OK {
				t.Fatalf("Read of %q is %s, %d", got, show(back), err)
			}
		}
	})
}

// orderOf is the order whose Bytes are s, and whether there is one, by the forms that the chapter tells.
func orderOf(s string) (api.Order, bool) {
	if s == "" {
		return api.Order{}, false
	}
	kind, rest := int(s[0]), s[1:]
	switch kind {
	case 1, 2:
		if len(rest) == 1 && rest[0] < 64 {
			return api.Order{Kind: kind, Node: int(rest[0])}, true
		}
	case 3:
		if len(rest)%4 == 0 && len(rest) >= 4 && len(rest) <= 52 {
			o := api.Order{Kind: kind}
			for ; rest != ""; rest = rest[4:] {
				o.Hints = append(o.Hints, rest[:4])
			}
			return o, true
		}
	case 4:
		for end := range len(rest) + 1 {
			if named(rest[:end]) {
				return api.Order{Kind: kind, Name: rest[:end], Text: rest[end:]}, len(rest)-end <= 200
			}
		}
	case 5:
		return api.Order{Kind: kind, Zone: rest}, named(rest)
	}
	return api.Order{}, false
}

// likeOrder holds Read of a string against orderOf.
func likeOrder(t *testing.T, s string) {
	t.Helper()
	want, ok := orderOf(s)
	wrong := api.OK
	if !ok {
		want, wrong = api.Order{}, api.ErrForm
	}
	got, err := Read(s)
	if !sameOrder(got, want) || err != wrong {
		t.Fatalf("Read of %.600q is %s, %d, want %s, %d", s, show(got), err, show(want), wrong)
	}
}

func TestReadOfAllShortStrings(t *testing.T) {
	const bytes = "\x00\x01\x02\x03\x04\x05a\xc0"
	all := []string{""}
	for range 7 {
		var next []string
		for _, s := range all {
			likeOrder(t, s)
			for i := range len(bytes) {
				next = append(next, s+bytes[i:i+1])
			}
		}
		all = next
	}
	for a := range 256 {
		for b := range 256 {
			likeOrder(t, string([]byte{byte(a), byte(b)}))
		}
	}
}

func TestReadOfSizes(t *testing.T) {
	for size := range 300 {
		for kind := range 7 {
			k := string([]byte{byte(kind)})
			likeOrder(t, k+x(size))
			likeOrder(t, k+strings.Repeat("\x00", size))
			likeOrder(t, k+dotted("a.b.")+x(size))
			likeOrder(t, k+long(255)+x(size))
			likeOrder(t, k+long(256)+x(size))
		}
	}
	for size := 196; size <= 257; size++ {
		likeOrder(t, "\x04"+long(size))
		likeOrder(t, "\x04"+long(size)+"text")
		likeOrder(t, "\x05"+long(size))
		likeOrder(t, "\x05"+long(size)+"\x00")
	}
	for _, kind := range []string{"\x01", "\x02", "\x03", "\x04", "\x05", "\x06"} {
		for _, s := range []string{x(1 << 20), dotted("a.") + x(1<<20), strings.Repeat("\x01a", 1<<20), strings.Repeat("\x00", 1<<20)} {
			if o, err := Read(kind + s); !sameOrder(o, api.Order{}) || err != api.ErrForm {
				t.Errorf("Read of a great string is %s, %d", show(o), err)
			}
		}
	}
}

// No pointer is part of a name's bytes, although one of them could lead to the kind, and be read on from there.
func TestReadOfPointers(t *testing.T) {
	for _, s := range []string{
		"\x04\xc0\x00", "\x05\xc0\x00", "\x04\xc0\x00ab\x00", "\x04\xc0\x00ab\x00text", "\x05\xc0\x00abc\x00",
		"\x04\x01a\xc0\x00", "\x05\x01a\xc0\x00", "\x05\x01a\xc0\x01", "\x04\xc0\x01\x00",
		"\x05\xff\xff", "\x04\x40" + x(64) + "\x00", "\x05\x80\x00",
	} {
		likeOrder(t, s)
		if o, err := Read(s); !sameOrder(o, api.Order{}) || err != api.ErrForm {
			t.Errorf("Read of %q is %s, %d", s, show(o), err)
		}
	}
}

func TestReadOfChangedOrders(t *testing.T) {
	for _, o := range []api.Order{joins(5), leaves(63), hints("abcd", "\x00\x00\x00\x00", "efgh"), anchors(dotted("www.Example."), "trust"), flushes(dotted("www.Example."))} {
		s, _ := Bytes(o)
		for at := range len(s) {
			likeOrder(t, s[:at])
			likeOrder(t, s[:at]+s[at+1:])
			for b := range 256 {
				likeOrder(t, s[:at]+string([]byte{byte(b)})+s[at+1:])
				likeOrder(t, s[:at]+string([]byte{byte(b)})+s[at:])
			}
		}
		likeOrder(t, s+s)
	}
}

// inside tells whether a string's bytes stand in another one's memory.
func inside(part, all string) bool {
	if part == "" {
		return false
	}
	at, start := uintptr(unsafe.Pointer(unsafe.StringData(part))), uintptr(unsafe.Pointer(unsafe.StringData(all)))
	return at >= start && at < start+uintptr(len(all))
}

func TestReadKeepsNothingOfItsArgument(t *testing.T) {
	for _, o := range []api.Order{hints("abcd", "efgh"), anchors(dotted("www.example."), x(200)), flushes(long(255))} {
		s, _ := Bytes(o)
		got, err := Read(s)
		gives(t, "Read", err, api.OK)
		for _, part := range append(slices.Clone(got.Hints), got.Name, got.Text, got.Zone) {
			holds(t, "that Read's answer has memory of its own", !inside(part, s))
		}
	}
}

// P13.2: Apply

// applyByWords is Apply to a valid configuration, sentence by sentence.
func applyByWords(c api.Conf, o api.Order) (api.Conf, api.Errno) {
	if err := checkByWords(o); err != api.OK {
		return c, err
	}
	out := copyOf(c)
	switch o.Kind {
	case 1, 2:
		var on [64]bool
		for _, node := range c.Ring {
			on[node] = true
		}
		if on[o.Node] == (o.Kind == 1) {
			return c, api.ErrState
		}
		on[o.Node] = !on[o.Node]
		out.Ring = nil
		for node := range 64 {
			if on[node] {
				out.Ring = append(out.Ring, node)
			}
		}
	case 3:
		out.Hints = slices.Clone(o.Hints)
	case 4:
		out.Anchors = nil
		for _, a := range c.Anchors {
			if lowered(a.Name) != lowered(o.Name) {
				out.Anchors = append(out.Anchors, a)
			}
		}
		if o.Text != "" {
			if len(out.Anchors) == 16 {
				return c, api.ErrFull
			}
			out.Anchors = append(out.Anchors, api.Anchor{Name: o.Name, Text: o.Text})
		}
		slices.SortFunc(out.Anchors, func(a, b api.Anchor) int {
			return strings.Compare(lowered(a.Name), lowered(b.Name))
		})
	case 5:
		if c.Epoch == 1<<40 {
			return c, api.ErrFull
		}
		out.Epoch, out.Flushes = c.Epoch+1, nil
		for _, f := range c.Flushes {
			if !in(f.Zone, o.Zone) {
				out.Flushes = append(out.Flushes, f)
			}
		}
		zone := lowered(o.Zone)
		if len(out.Flushes) == 32 {
			out.Flushes, zone = nil, "\x00"
		}
		out.Flushes = append(out.Flushes, api.Flush{Epoch: out.Epoch, Zone: zone})
	}
	return out, api.OK
}

// likeWords applies an order and holds what that gives against the words.
func likeWords(t *testing.T, c api.Conf, o api.Order) (api.Conf, api.Errno) {
	t.Helper()
	want, wrong := applyByWords(c, o)
	got, err := Apply(c, o)
	if !sameConf(got, want) || err != wrong {
		t.Fatalf("Apply of %s to %s is %s, %d, want %s, %d", show(o), show(c), show(got), err, show(want), wrong)
	}
	return got, err
}

// after is a configuration after orders, all of which apply.
func after(t *testing.T, c api.Conf, orders ...api.Order) api.Conf {
	t.Helper()
	for _, o := range orders {
		var err api.Errno
		if c, err = Apply(c, o); err != api.OK {
			t.Fatalf("Apply of %s is %d", show(o), err)
		}
	}
	return c
}

// refuses tells of an order that does not give an error, and leave the configuration as it is.
func refuses(t *testing.T, c api.Conf, o api.Order, want api.Errno) {
	t.Helper()
	before := copyOf(c)
	got, err := Apply(c, o)
	if err != want || !sameConf(got, before) || !sameConf(c, before) {
		t.Errorf("Apply of %s is %s, %d, want %d", show(o), show(got), err, want)
	}
}

func TestTheExamplesOfFlushes(t *testing.T) {
	c := after(t, api.Conf{}, flushes(dotted("a.")))
	isConf(t, "a flush of a.", c, api.Conf{Epoch: 1, Flushes: []api.Flush{{Epoch: 1, Zone: dotted("a.")}}})
	holds(t, "the floor of x.a.", Floor(c, dotted("x.a.")) == 1)
	holds(t, "the floor of b.", Floor(c, dotted("b.")) == 0)
	isConf(t, "a flush of the root", after(t, c, flushes("\x00")), api.Conf{Epoch: 2, Flushes: []api.Flush{{Epoch: 2, Zone: "\x00"}}})
}

func TestRing(t *testing.T) {
	c := after(t, api.Conf{}, joins(5), joins(0), joins(63), joins(7))
	isConf(t, "four joins", c, api.Conf{Ring: []int{0, 5, 7, 63}})
	for _, node := range c.Ring {
		refuses(t, c, joins(node), api.ErrState)
	}
	for _, node := range []int{1, 4, 6, 8, 62} {
		refuses(t, c, leaves(node), api.ErrState)
	}
	isConf(t, "three leaves", after(t, c, leaves(7), leaves(0), leaves(63)), api.Conf{Ring: []int{5}})
	isConf(t, "a ring without nodes", after(t, c, leaves(7), leaves(0), leaves(63), leaves(5)), api.Conf{})
	refuses(t, api.Conf{}, leaves(0), api.ErrState)
	isConf(t, "a join again", after(t, c, leaves(7), joins(7)), c)
	all := api.Conf{}
	for i := range 64 {
		all = after(t, all, joins(i*37%64))
	}
	for i := range 64 {
		holds(t, "a full ring's order", all.Ring[i] == i)
		refuses(t, all, joins(i), api.ErrState)
	}
}

func TestHintsBecomeThoseOfTheOrder(t *testing.T) {
	c := after(t, api.Conf{}, hints("zzzz", "aaaa", "zzzz"))
	isConf(t, "hints", c, api.Conf{Hints: []string{"zzzz", "aaaa", "zzzz"}})
	isConf(t, "other hints", after(t, c, hints("bbbb")), api.Conf{Hints: []string{"bbbb"}})
	most := slices.Repeat([]string{"1234"}, 13)
	isConf(t, "13 hints", after(t, c, hints(most...)), api.Conf{Hints: most})
	refuses(t, c, hints(), api.ErrArg)
	refuses(t, c, hints(append(most, "1234")...), api.ErrArg)
}

func TestAnchors(t *testing.T) {
	a, b, upper := dotted("a."), dotted("b."), dotted("A.")
	c := after(t, api.Conf{}, anchors(b, "1"), anchors(upper, "2"), anchors("\x00", "3"))
	isConf(t, "three anchors", c, api.Conf{Anchors: []api.Anchor{{Name: "\x00", Text: "3"}, {Name: upper, Text: "2"}, {Name: b, Text: "1"}}})
	c = after(t, c, anchors(a, "4"), anchors("\x00", ""), anchors(dotted("c."), ""))
	isConf(t, "another text, in place of A.'s", c, api.Conf{Anchors: []api.Anchor{{Name: a, Text: "4"}, {Name: b, Text: "1"}}})
	isConf(t, "the same anchor again", after(t, c, anchors(a, "4")), c)
	isConf(t, "b. is removed by another case", after(t, c, anchors(dotted("B."), "")), api.Conf{Anchors: []api.Anchor{{Name: a, Text: "4"}}})
	isConf(t, "an anchor of no text that was not there", after(t, api.Conf{}, anchors(a, "")), api.Conf{})
	refuses(t, c, anchors(a, x(201)), api.ErrArg)
	refuses(t, c, anchors("a", "t"), api.ErrArg)
	isConf(t, "a text of 200 bytes", after(t, api.Conf{}, anchors(a, x(200))), api.Conf{Anchors: []api.Anchor{{Name: a, Text: x(200)}}})
}

// Anchors stand by the bytes of their names in lower case, and not by labels from the last one on.
func TestTheOrderOfAnchors(t *testing.T) {
	list := []string{"\x00", dotted("_."), dotted("`."), dotted("A.z."), dotted("b.a."), dotted("B.c."), dotted("aA."), dotted("Ab."), dotted("zz."), dotted("aaa."), raw("\xff\xff\xff")}
	var want []api.Anchor
	for _, n := range list {
		want = append(want, api.Anchor{Name: n, Text: "t"})
	}
	r := rand.New(rand.NewSource(1))
	for range 200 {
		c := api.Conf{}
		for _, i := range r.Perm(len(list)) {
			c = after(t, c, anchors(list[i], "t"))
		}
		isConf(t, "the order of anchors", c, api.Conf{Anchors: want})
		holds(t, "that they are right", Right(c))
	}
}

// anchorName is a name for an anchor, by a number.
func anchorName(i int) string {
	return raw("n" + string([]byte{byte('a' + i)}))
}

func TestFullAnchors(t *testing.T) {
	c := api.Conf{}
	for i := range 15 {
		c = after(t, c, anchors(anchorName(i), "t"))
	}
	full := after(t, c, anchors(anchorName(15), "t"))
	holds(t, "that 16 are right", len(full.Anchors) == 16 && Right(full))
	for i := range 16 {
		n := anchorName(i)
		changed := after(t, full, anchors(n, "u"))
		holds(t, "that one of 16 is changed", len(changed.Anchors) == 16 && changed.Anchors[i].Text == "u")
		changed = after(t, full, anchors(strings.ToUpper(n), "u"))
		holds(t, "that one of 16 is changed by another case", len(changed.Anchors) == 16 && changed.Anchors[i] == (api.Anchor{Name: strings.ToUpper(n), Text: "u"}))
		holds(t, "that one of 16 is removed", len(after(t, full, anchors(n, "")).Anchors) == 15)
	}
	for _, n := range []string{"\x00", anchorName(16), dotted("zzzz.")} {
		refuses(t, full, anchors(n, "t"), api.ErrFull)
		isConf(t, "removing what is not there", after(t, full, anchors(n, "")), full)
	}
	isConf(t, "all 16 again", after(t, full, anchors(anchorName(3), ""), anchors(anchorName(3), "t")), full)
}

func TestFlushes(t *testing.T) {
	a, xa, b := dotted("a."), dotted("x.a."), dotted("b.")
	c := after(t, api.Conf{}, flushes(dotted("A.")), flushes(dotted("X.a.")), flushes(b))
	isConf(t, "three flushes", c, api.Conf{Epoch: 3, Flushes: []api.Flush{{Epoch: 1, Zone: a}, {Epoch: 2, Zone: xa}, {Epoch: 3, Zone: b}}})
	isConf(t, "x.a. again", after(t, c, flushes(xa)), api.Conf{Epoch: 4, Flushes: []api.Flush{{Epoch: 1, Zone: a}, {Epoch: 3, Zone: b}, {Epoch: 4, Zone: xa}}})
	isConf(t, "a. again", after(t, c, flushes(dotted("A."))), api.Conf{Epoch: 4, Flushes: []api.Flush{{Epoch: 3, Zone: b}, {Epoch: 4, Zone: a}}})
	isConf(t, "y.x.a.", after(t, c, flushes(dotted("y.x.a."))), api.Conf{Epoch: 4, Flushes: append(slices.Clone(c.Flushes), api.Flush{Epoch: 4, Zone: dotted("y.x.a.")})})
	isConf(t, "the root", after(t, c, flushes("\x00")), api.Conf{Epoch: 4, Flushes: []api.Flush{{Epoch: 4, Zone: "\x00"}}})
	isConf(t, "ya., which is not in a.", after(t, api.Conf{}, flushes(dotted("ya.")), flushes(a)), api.Conf{Epoch: 2, Flushes: []api.Flush{{Epoch: 1, Zone: dotted("ya.")}, {Epoch: 2, Zone: a}}})
	isConf(t, "other bytes are no letters", after(t, api.Conf{}, flushes(raw("@[Z\xc1"))), api.Conf{Epoch: 1, Flushes: []api.Flush{{Epoch: 1, Zone: raw("@[z\xc1")}}})
}

func TestTheLastEpoch(t *testing.T) {
	c := api.Conf{Epoch: 1<<40 - 1}
	last := after(t, c, flushes(dotted("a.")))
	isConf(t, "the last flush", last, api.Conf{Epoch: 1 << 40, Flushes: []api.Flush{{Epoch: 1 << 40, Zone: dotted("a.")}}})
	holds(t, "that it is right", Right(last))
	for _, zone := range []string{"\x00", dotted("a."), dotted("b.")} {
		refuses(t, last, flushes(zone), api.ErrFull)
		refuses(t, api.Conf{Epoch: 1 << 40}, flushes(zone), api.ErrFull)
	}
	refuses(t, last, flushes("a"), api.ErrArg)
	holds(t, "a join behind the last epoch", len(after(t, last, joins(1)).Ring) == 1)
}

// zoneName is a zone, by a number; each third one is in the zone c.
func zoneName(i int) string {
	if i%3 == 0 {
		return raw("z"+string([]byte{byte('a' + i%26), byte('a' + i/26)}), "c")
	}
	return raw("z"+string([]byte{byte('a' + i%26), byte('a' + i/26)}), "d")
}

func TestFullFlushes(t *testing.T) {
	c := api.Conf{Epoch: 100}
	for i := range 32 {
		c = after(t, c, flushes(zoneName(i)))
		holds(t, "that flushes stay till there are 32", len(c.Flushes) == i+1)
	}
	holds(t, "that 32 are right", Right(c) && c.Epoch == 132)
	for _, zone := range []string{zoneName(32), dotted("Q."), dotted("y.zbA.d.")} {
		isConf(t, "one more", after(t, c, flushes(zone)), api.Conf{Epoch: 133, Flushes: []api.Flush{{Epoch: 133, Zone: "\x00"}}})
	}
	for i := range 32 {
		again := after(t, c, flushes(zoneName(i)))
		holds(t, "that one of 32 again makes no flush of the root", len(again.Flushes) == 32 && again.Flushes[31] == api.Flush{Epoch: 133, Zone: zoneName(i)})
	}
	holds(t, "that a zone above takes the place of those in it", len(after(t, c, flushes(dotted("C."))).Flushes) == 32-11+1)
	isConf(t, "the root", after(t, c, flushes("\x00")), api.Conf{Epoch: 133, Flushes: []api.Flush{{Epoch: 133, Zone: "\x00"}}})
	c31 := api.Conf{Epoch: 1 << 20, Flushes: slices.Clone(c.Flushes[:31])}
	holds(t, "that the 32nd one is put behind the others", len(after(t, c31, flushes(dotted("q."))).Flushes) == 32)
}

func TestWrongOrdersChangeNothing(t *testing.T) {
	c := api.Conf{Ring: []int{3}, Hints: []string{"abcd"}, Anchors: []api.Anchor{{Name: dotted("a."), Text: "t"}}, Epoch: 7, Flushes: []api.Flush{{Epoch: 5, Zone: dotted("a.")}}}
	eachOrder(func(o api.Order) {
		likeWords(t, c, o)
	})
	refuses(t, c, api.Order{}, api.ErrArg)
	// The error of Check comes first.
	refuses(t, c, api.Order{Kind: 1, Node: 3, Text: "t"}, api.ErrArg)
	refuses(t, api.Conf{Epoch: 1 << 40}, api.Order{Kind: 5, Zone: "a"}, api.ErrArg)
}

// A few orders that have to do with each other.
func fewOrders() []api.Order {
	a, upper, xa := dotted("a."), dotted("X.A."), dotted("x.a.")
	return []api.Order{joins(0), joins(63), leaves(0), leaves(63), hints("abcd", "efgh"), hints("abcd"), anchors(a, "t"), anchors(xa, "t"), anchors(upper, "u"), anchors(upper, ""), flushes(a), flushes(xa), flushes(upper), flushes("\x00"), flushes(dotted("b.")), joins(64)}
}

func TestAllShortSequencesOfOrders(t *testing.T) {
	all := []api.Conf{{}, {Epoch: 1<<40 - 2}}
	for range 4 {
		var next []api.Conf
		for _, c := range all {
			for _, o := range fewOrders() {
				if got, err := likeWords(t, c, o); err == api.OK {
					next = append(next, got)
				}
			}
		}
		all = next
	}
}

// randomName is a name of a small world, so that some are the same and some are under others.
func randomName(r *rand.Rand) string {
	var labels []string
	for range r.Intn(4) {
		labels = append(labels, []string{"a", "A", "b", "B", "aa", "Ab", "c", "d"}[r.Intn(8)])
	}
	return raw(labels...)
}

// randomZone is a name of the same world, of three labels most of the time, so that few zones are under others.
func randomZone(r *rand.Rand) string {
	for range 20 {
		n := randomName(r)
		if labels, _ := labelsOf(n); len(labels) == 3 {
			return n
		}
	}
	return randomName(r)
}

// randomOrder is an order that is right most of the time.
func randomOrder(r *rand.Rand) api.Order {
	switch r.Intn(16) {
	case 0, 1:
		return joins(r.Intn(66) - 1)
	case 2:
		return leaves(r.Intn(64))
	case 3:
		return hints([]string{"abcd", "efgh", "ijkl", "mno"}[:1+r.Intn(4)]...)
	case 4, 5, 6, 7, 8:
		return anchors(randomName(r), "some text"[:r.Intn(4)])
	case 9:
		return flushes(randomName(r) + "\x00"[:r.Intn(20)/19])
	}
	return flushes(randomZone(r))
}

// walk applies random orders, one after the other, and shows each of them.
func walk(seed int64, steps int, show func(before api.Conf, o api.Order, after api.Conf, err api.Errno)) {
	r := rand.New(rand.NewSource(seed))
	c := api.Conf{}
	for range steps {
		o := randomOrder(r)
		next, err := Apply(c, o)
		show(c, o, next, err)
		c = next
	}
}

func TestRandomOrders(t *testing.T) {
	var full, flushed int
	for seed := range int64(100) {
		walk(seed, 400, func(before api.Conf, o api.Order, _ api.Conf, _ api.Errno) {
			got, err := likeWords(t, before, o)
			if o.Kind == 4 && err == api.ErrFull {
				full++
			}
			if o.Kind == 5 && err == api.OK && o.Zone != "\x00" && got.Flushes[0].Zone == "\x00" && len(got.Flushes) == 1 {
				flushed++
			}
		})
	}
	if full == 0 || flushed == 0 {
		t.Errorf("the orders were too tame: %d full, %d flushed", full, flushed)
	}
}

// What Apply gives stands in memory of its own, whether it applies the order or not, and its arguments stay as they are.
func TestApplySharesNothing(t *testing.T) {
	full := api.Conf{Ring: []int{3, 5}, Hints: []string{"abcd", "efgh"}, Epoch: 9, Flushes: []api.Flush{{Epoch: 5, Zone: dotted("x.a.")}, {Epoch: 6, Zone: dotted("b.")}}}
	for i := range 16 {
		full.Anchors = append(full.Anchors, api.Anchor{Name: anchorName(i), Text: "t"})
	}
	orders := append(fewOrders(), joins(4), joins(3), leaves(3), leaves(5), leaves(4), anchors(anchorName(4), ""), anchors(anchorName(15), "u"), api.Order{}, hints("abcd", "efgh", "x"))
	for _, o := range orders {
		c, list := copyOf(full), slices.Clone(o.Hints)
		want, wrong := applyByWords(full, o)
		got, err := Apply(c, o)
		gives(t, "Apply", err, wrong)
		isConf(t, "the argument", c, full)
		room := c.Anchors[:cap(c.Anchors)]
		holds(t, "that nothing is written behind a list of the argument", room[16].Name == "room" && c.Ring[:cap(c.Ring)][2] == -7)
		other, _ := Apply(c, o)
		spoil(c)
		for i := range o.Hints {
			o.Hints[i] = "changed"
		}
		isConf(t, "the result, when the arguments are changed", got, want)
		spoil(got)
		isConf(t, "another result", other, want)
		again := copyOf(full)
		o.Hints = slices.Clone(list)
		third, _ := Apply(again, o)
		spoil(third)
		isConf(t, "the argument, when the result is changed", again, full)
		holds(t, "that the order stays as it is", slices.Equal(o.Hints, list))
	}
}

// P13.3

// floorByWords is the floor of a name.
func floorByWords(c api.Conf, n string) int {
	best, found := 0, false
	for _, f := range c.Flushes {
		if in(n, f.Zone) && (!found || f.Epoch > best) {
			best, found = f.Epoch, true
		}
	}
	return best
}

func TestFloor(t *testing.T) {
	c := api.Conf{Epoch: 50, Flushes: []api.Flush{{Epoch: 3, Zone: dotted("a.")}, {Epoch: 7, Zone: dotted("y.x.a.")}, {Epoch: 20, Zone: dotted("b.")}, {Epoch: 31, Zone: dotted("c.b.")}}}
	for text, want := range map[string]int{".": 0, "a.": 3, "A.": 3, "x.a.": 3, "ya.": 0, "y.x.a.": 7, "z.Y.X.A.": 7, "yx.a.": 3, "b.": 20, "a.b.": 20, "c.b.": 31, "d.C.b.": 31, "c.": 0, "b.c.": 0, "a.d.": 0} {
		if got := Floor(c, dotted(text)); got != want {
			t.Errorf("Floor of %s is %d, want %d", text, got, want)
		}
	}
	for _, n := range []string{"", "a", "\x01a", "\x01a\x00\x00", "\xc0\x00", long(256), x(1 << 20), strings.Repeat("\x01a", 1<<20) + "\x00"} {
		holds(t, "that what is no name has no floor", Floor(c, n) == 0)
		holds(t, "that what is no name has none of the root", Floor(api.Conf{Epoch: 1, Flushes: []api.Flush{{Epoch: 1, Zone: "\x00"}}}, n) == 0)
	}
	root := api.Conf{Epoch: 9, Flushes: []api.Flush{{Epoch: 8, Zone: "\x00"}, {Epoch: 9, Zone: dotted("a.")}}}
	holds(t, "the floors of the root's flush", Floor(root, "\x00") == 8 && Floor(root, dotted("b.")) == 8 && Floor(root, dotted("b.a.")) == 9)
	holds(t, "the floor of the longest name", Floor(root, long(255)) == 8)
	holds(t, "the floor in the empty configuration", Floor(api.Conf{}, dotted("a.")) == 0)
	holds(t, "that the epoch alone is no floor", Floor(api.Conf{Epoch: 5}, "\x00") == 0)
}

// Floors are told of any configuration, be it valid or not.
func TestFloorOfAnyFlushes(t *testing.T) {
	r := rand.New(rand.NewSource(2))
	for range 3000 {
		c := api.Conf{Epoch: r.Intn(9)}
		for range r.Intn(6) {
			zone := randomName(r)
			if r.Intn(6) == 0 {
				zone = someNames()[r.Intn(len(someNames()))]
			}
			c.Flushes = append(c.Flushes, api.Flush{Epoch: r.Intn(12) - 3, Zone: zone})
		}
		for _, n := range append(someNames(), randomName(r), randomName(r), randomName(r)) {
			if got, want := Floor(c, n), floorByWords(c, n); got != want {
				t.Fatalf("Floor of %s for %.100q is %d, want %d", show(c), n, got, want)
			}
		}
	}
}

// P13.4: Right

// rightByWords tells whether a configuration is valid, part by part.
func rightByWords(c api.Conf) bool {
	ok := len(c.Hints) <= 13 && len(c.Anchors) <= 16 && len(c.Flushes) <= 32 && c.Epoch >= 0 && c.Epoch <= 1<<40
	for i, node := range c.Ring {
		ok = ok && node >= 0 && node <= 63 && (i == 0 || c.Ring[i-1] < node)
	}
	for _, h := range c.Hints {
		ok = ok && len(h) == 4
	}
	for i, a := range c.Anchors {
		ok = ok && named(a.Name) && len(a.Text) >= 1 && len(a.Text) <= 200 && (i == 0 || lowered(c.Anchors[i-1].Name) < lowered(a.Name))
	}
	for i, f := range c.Flushes {
		ok = ok && f.Epoch >= 1 && f.Epoch <= c.Epoch && named(f.Zone) && lowered(f.Zone) == f.Zone && (i == 0 || c.Flushes[i-1].Epoch < f.Epoch)
		for _, later := range c.Flushes[min(i+1, len(c.Flushes)):] {
			ok = ok && !in(f.Zone, later.Zone)
		}
	}
	return ok
}

// snapByWords are the bytes of a valid configuration.
func snapByWords(c api.Conf) string {
	out := []byte{byte(len(c.Ring))}
	for _, node := range c.Ring {
		out = append(out, byte(node))
	}
	out = append(out, byte(len(c.Hints)))
	for _, h := range c.Hints {
		out = append(out, h...)
	}
	out = append(out, byte(len(c.Anchors)))
	for _, a := range c.Anchors {
		out = append(append(out, a.Name...), byte(len(a.Text)))
		out = append(out, a.Text...)
	}
	out = binary.BigEndian.AppendUint64(out, uint64(c.Epoch))
	out = append(out, byte(len(c.Flushes)))
	for _, f := range c.Flushes {
		out = append(binary.BigEndian.AppendUint64(out, uint64(f.Epoch)), f.Zone...)
	}
	return string(out)
}

// likeSnap holds Right and Snap of a configuration against the words, and Load of its Snap.
func likeSnap(t *testing.T, what string, c api.Conf) {
	t.Helper()
	right, snap := rightByWords(c), ""
	if right {
		snap = snapByWords(c)
	}
	before := copyOf(c)
	if got := Right(c); got != right {
		t.Errorf("%s: Right of %s is %v", what, show(c), got)
	}
	if got := Snap(c); got != snap {
		t.Errorf("%s: Snap of %s is %q, want %q", what, show(c), got, snap)
	}
	isConf(t, what+": the argument", c, before)
	if right {
		got, err := Load(snap)
		gives(t, what+": Load", err, api.OK)
		isConf(t, what+": Load", got, c)
	}
}

// isRight tells of a configuration that is not as right as it should be.
func isRight(t *testing.T, what string, c api.Conf, want bool) {
	t.Helper()
	if rightByWords(c) != want || Right(c) != want {
		t.Errorf("%s: Right of %s is %v, want %v", what, show(c), Right(c), want)
	}
	likeSnap(t, what, c)
}

// ringTo are all nodes up to the number ahead of n.
func ringTo(n int) []int {
	var out []int
	for node := range n {
		out = append(out, node)
	}
	return out
}

func TestRightOfRings(t *testing.T) {
	for _, c := range []struct {
		ring []int
		want bool
	}{
		{nil, true}, {[]int{}, true}, {[]int{0}, true}, {[]int{63}, true}, {[]int{0, 63}, true}, {ringTo(64), true},
		{[]int{-1}, false}, {[]int{64}, false}, {[]int{256}, false}, {[]int{1 << 32}, false}, {[]int{math.MinInt}, false}, {[]int{math.MaxInt}, false},
		{[]int{-1, 3}, false}, {[]int{3, 64}, false}, {[]int{1, 1}, false}, {[]int{0, 2, 1}, false}, {[]int{0, 1, 1, 2}, false}, {[]int{5, 4}, false},
		{ringTo(65), false}, {append(ringTo(64), 63), false}, {ringTo(1 << 16), false}, {make([]int, 1<<16), false}, {[]int{1, math.MinInt}, false},
	} {
		isRight(t, "a ring", api.Conf{Ring: c.ring}, c.want)
	}
}

func TestRightOfHints(t *testing.T) {
	for count := range 16 {
		list := slices.Repeat([]string{"abcd"}, count)
		isRight(t, "hints", api.Conf{Hints: list}, count <= 13)
		for at := range count {
			for _, wrong := range []string{"", "abc", "abcde", x(260)} {
				list[at] = wrong
				isRight(t, "a wrong hint", api.Conf{Hints: list}, false)
				list[at] = "abcd"
			}
		}
	}
	isRight(t, "256 hints", api.Conf{Hints: slices.Repeat([]string{"abcd"}, 256)}, false)
	isRight(t, "hints out of order", api.Conf{Hints: []string{"zzzz", "aaaa", "zzzz"}}, true)
}

func TestRightOfAnchors(t *testing.T) {
	list := func(names ...string) api.Conf {
		var c api.Conf
		for _, n := range names {
			c.Anchors = append(c.Anchors, api.Anchor{Name: n, Text: "t"})
		}
		return c
	}
	a, b, upper := dotted("a."), dotted("b."), dotted("B.")
	isRight(t, "anchors", list(a, b), true)
	isRight(t, "anchors out of order", list(b, a), false)
	isRight(t, "one name twice", list(a, a), false)
	isRight(t, "one name twice, in two cases", list(b, upper), false)
	isRight(t, "a name in upper case", list(a, upper, dotted("c.")), true)
	isRight(t, "in order by the bytes alone", list(upper, a), false)
	isRight(t, "in order by the lower-case form alone", list(a, upper), true)
	isRight(t, "lower case lies behind an underscore", list(dotted("_."), dotted("A.")), true)
	isRight(t, "upper case ahead of it", list(dotted("A."), dotted("_.")), false)
	isRight(t, "by the first label", list(dotted("a.b."), dotted("b.a.")), true)
	isRight(t, "by the last label", list(dotted("b.a."), dotted("a.b.")), false)
	isRight(t, "a short label first", list(dotted("b."), dotted("aa.")), true)
	isRight(t, "a long label first", list(dotted("aa."), dotted("b.")), false)
	isRight(t, "the root first", list("\x00", a), true)
	isRight(t, "the root last", list(a, "\x00"), false)
	isRight(t, "the last pair", list("\x00", a, b, dotted("c."), dotted("d."), dotted("D.")), false)
	for _, n := range someNames() {
		isRight(t, "a name", list(n), named(n))
	}
	for _, size := range []int{0, 1, 2, 199, 200, 201, 255, 256, 257, 456} {
		isRight(t, "a text", api.Conf{Anchors: []api.Anchor{{Name: a, Text: x(size)}}}, size >= 1 && size <= 200)
		isRight(t, "a second text", api.Conf{Anchors: []api.Anchor{{Name: a, Text: "t"}, {Name: b, Text: x(size)}}}, size >= 1 && size <= 200)
	}
	var many []string
	for i := range 18 {
		isRight(t, "many anchors", list(many...), i <= 16)
		many = append(many, anchorName(i))
	}
}

func TestRightOfEpochs(t *testing.T) {
	for _, n := range []int{math.MinInt, -1 << 40, -1, 0, 1, 255, 256, 1 << 32, 1<<40 - 1, 1 << 40, 1<<40 + 1, 1 << 41, math.MaxInt} {
		in := n >= 0 && n <= 1<<40
		isRight(t, "an epoch", api.Conf{Epoch: n}, in)
		isRight(t, "an epoch, with a flush of it", api.Conf{Epoch: n, Flushes: []api.Flush{{Epoch: n, Zone: "\x00"}}}, in && n > 0)
		isRight(t, "a flush's epoch", api.Conf{Epoch: 1 << 40, Flushes: []api.Flush{{Epoch: n, Zone: "\x00"}}}, in && n > 0)
		isRight(t, "a flush of 5", api.Conf{Epoch: n, Flushes: []api.Flush{{Epoch: 5, Zone: "\x00"}}}, in && n >= 5)
	}
}

func TestRightOfFlushes(t *testing.T) {
	a, xa, b, yxa, root := dotted("a."), dotted("x.a."), dotted("b."), dotted("y.x.a."), "\x00"
	for _, c := range []struct {
		epochs []int
		zones  []string
		want   bool
	}{
		{[]int{1, 2}, []string{a, b}, true},
		{[]int{4, 5}, []string{b, a}, true},
		{[]int{4, 9}, []string{b, a}, true},
		{[]int{4, 10}, []string{b, a}, false},
		{[]int{2, 2}, []string{a, b}, false},
		{[]int{3, 2}, []string{a, b}, false},
		{[]int{0, 2}, []string{a, b}, false},
		{[]int{-1, 2}, []string{a, b}, false},
		{[]int{1, 3, 2}, []string{a, b, dotted("c.")}, false},
		{[]int{1, 2}, []string{a, xa}, true},
		{[]int{1, 2}, []string{xa, a}, false},
		{[]int{1, 2}, []string{a, a}, false},
		{[]int{1, 2}, []string{root, a}, true},
		{[]int{1, 2}, []string{a, root}, false},
		{[]int{1, 2}, []string{root, root}, false},
		{[]int{1, 2, 3}, []string{root, a, yxa}, true},
		{[]int{1, 2, 3}, []string{yxa, b, xa}, false},
		{[]int{1, 2, 3}, []string{yxa, b, a}, false},
		{[]int{1, 2, 3}, []string{b, yxa, xa}, false},
		{[]int{1, 2, 3}, []string{a, b, yxa}, true},
		{[]int{1, 2}, []string{dotted("ya."), a}, true},
		{[]int{1}, []string{dotted("A.")}, false},
		{[]int{1, 2}, []string{a, dotted("b.C.")}, false},
		{[]int{1, 2}, []string{raw("@[\xc1`{"), b}, true},
	} {
		conf := api.Conf{Epoch: 9}
		for i, epoch := range c.epochs {
			conf.Flushes = append(conf.Flushes, api.Flush{Epoch: epoch, Zone: c.zones[i]})
		}
		isRight(t, "flushes", conf, c.want)
	}
	for _, n := range someNames() {
		isRight(t, "a zone", api.Conf{Epoch: 2, Flushes: []api.Flush{{Epoch: 1, Zone: n}}}, named(n) && lowered(n) == n)
		isRight(t, "a second zone", api.Conf{Epoch: 2, Flushes: []api.Flush{{Epoch: 1, Zone: b}, {Epoch: 2, Zone: n}}}, named(n) && lowered(n) == n && n != root)
	}
	many := api.Conf{Epoch: 300}
	for i := range 35 {
		isRight(t, "many flushes", many, i <= 32)
		many.Flushes = append(many.Flushes, api.Flush{Epoch: i + 1, Zone: zoneName(i)})
	}
	isRight(t, "very many flushes", api.Conf{Flushes: make([]api.Flush, 1<<13)}, false)
}

// P13.4: Snap and Load

// big is a configuration with all that there may be.
func big() api.Conf {
	c := api.Conf{Ring: ringTo(64), Hints: slices.Repeat([]string{"\x00ab\xff"}, 13), Epoch: 1 << 40}
	for i := range 16 {
		c.Anchors = append(c.Anchors, api.Anchor{Name: raw(x(63), x(63), x(63), x(60)+string([]byte{byte('a' + i)})), Text: strings.Repeat("\xff", 200)})
	}
	for i := range 32 {
		c.Flushes = append(c.Flushes, api.Flush{Epoch: 1<<40 - 31 + i, Zone: raw(x(63), x(63), x(63), x(60)+string([]byte{byte('\x5b' + i)}))})
	}
	return c
}

// some is a configuration with a few of each.
func some() api.Conf {
	return api.Conf{Ring: []int{1, 5}, Hints: []string{"abcd", "\x00\xff\x01\x02"}, Anchors: []api.Anchor{{Name: dotted("B."), Text: "x"}, {Name: dotted("c.de."), Text: "yz\x00"}}, Epoch: 0x0102030405, Flushes: []api.Flush{{Epoch: 7, Zone: dotted("a.")}, {Epoch: 0x0102030405, Zone: dotted("b.a.")}}}
}

func TestSnap(t *testing.T) {
	if got, want := Snap(api.Conf{}), strings.Repeat("\x00", 12); got != want {
		t.Errorf("Snap of the empty configuration is %q", got)
	}
	want := "\x02\x01\x05" + "\x02abcd\x00\xff\x01\x02" + "\x02\x01B\x00\x01x\x01c\x02de\x00\x03yz\x00" + "\x00\x00\x00\x01\x02\x03\x04\x05" + "\x02\x00\x00\x00\x00\x00\x00\x00\x07\x01a\x00\x00\x00\x00\x01\x02\x03\x04\x05\x01b\x01a\x00"
	if got := Snap(some()); got != want {
		t.Errorf("Snap is %q", got)
	}
	isRight(t, "some", some(), true)
	isRight(t, "the greatest one", big(), true)
	if got := len(Snap(big())); got != 1+64+1+52+1+16*(255+1+200)+8+1+32*(8+255) {
		t.Errorf("Snap of the greatest configuration has %d bytes", got)
	}
	holds(t, "that the greatest one fits in a snapshot", len(Snap(big())) <= api.MaxSnap)
}

// confOf is the configuration whose Snap is s, and whether there is one: what can be read of s, if that is valid.
func confOf(s string) (api.Conf, bool) {
	ok := true
	take := func(n int) string {
		if ok = ok && n <= len(s); !ok {
			return strings.Repeat("\x00", n)
		}
		out := s[:n]
		s = s[n:]
		return out
	}
	nameAhead := func() string {
		out := take(1)
		for ok && out[len(out)-1] != 0 {
			out += take(int(out[len(out)-1]))
			out += take(1)
		}
		return out
	}
	small := func() int { return int(take(1)[0]) }
	epoch := func() int {
		n := binary.BigEndian.Uint64([]byte(take(8)))
		ok = ok && n <= 1<<40
		return int(n)
	}
	var c api.Conf
	for range small() {
		c.Ring = append(c.Ring, small())
	}
	for range small() {
		c.Hints = append(c.Hints, take(4))
	}
	for range small() {
		n := nameAhead()
		c.Anchors = append(c.Anchors, api.Anchor{Name: n, Text: take(small())})
	}
	c.Epoch = epoch()
	for range small() {
		n := epoch()
		c.Flushes = append(c.Flushes, api.Flush{Epoch: n, Zone: nameAhead()})
	}
	return c, ok && s == "" && rightByWords(c)
}

// likeLoad holds Load of a string against confOf.
func likeLoad(t *testing.T, s string) bool {
	t.Helper()
	want, ok := confOf(s)
	wrong := api.OK
	if !ok {
		want, wrong = api.Conf{}, api.ErrForm
	}
	got, err := Load(s)
	if !sameConf(got, want) || err != wrong {
		t.Fatalf("Load of %.900q is %s, %d, want %s, %d", s, show(got), err, show(want), wrong)
	}
	return ok
}

func TestLoadOfChangedSnaps(t *testing.T) {
	two := api.Conf{Epoch: 300, Flushes: []api.Flush{{Epoch: 255, Zone: "\x00"}, {Epoch: 256, Zone: dotted("abc.")}}}
	right := 0
	for _, c := range []api.Conf{{}, some(), two, {Ring: []int{3}}, {Hints: []string{"abcd"}}, {Anchors: []api.Anchor{{Name: dotted("ab."), Text: "text"}}}} {
		s := Snap(c)
		for at := range len(s) {
			holds(t, "that what is cut off is refused", !likeLoad(t, s[:at]))
			likeLoad(t, s[:at]+s[at+1:])
			for b := range 256 {
				if likeLoad(t, s[:at]+string([]byte{byte(b)})+s[at+1:]) {
					right++
				}
				likeLoad(t, s[:at]+string([]byte{byte(b)})+s[at:])
			}
		}
		for _, more := range []string{"\x00", "x", "\x00\x00", s} {
			holds(t, "that something behind it is refused", !likeLoad(t, s+more))
		}
	}
	if right < 1000 {
		t.Errorf("only %d changed ones are right", right)
	}
}

func TestLoadOfTheGreatest(t *testing.T) {
	s := Snap(big())
	r := rand.New(rand.NewSource(3))
	for range 300 {
		at := r.Intn(len(s))
		likeLoad(t, s[:at])
		likeLoad(t, s[:at]+string([]byte{byte(r.Intn(256))})+s[at+1:])
	}
	holds(t, "that it is right", likeLoad(t, s))
	holds(t, "that one byte more is refused", !likeLoad(t, s+"\x00"))
}

func TestLoadOfWrongBytes(t *testing.T) {
	for _, s := range []string{"", "\x00", strings.Repeat("\x00", 11), strings.Repeat("\x00", 13), strings.Repeat("\xff", 12), x(1 << 20), strings.Repeat("\x00", 1<<20), strings.Repeat("\xff", 1<<20), strings.Repeat("\x01", 1<<20)} {
		if c, err := Load(s); !sameConf(c, api.Conf{}) || err != api.ErrForm {
			t.Errorf("Load of %.20q is %s, %d", s, show(c), err)
		}
	}
	zero := strings.Repeat("\x00", 8)
	for what, s := range map[string]string{
		"a wrong node":                       "\x01\x40\x00\x00" + zero + "\x00",
		"nodes out of order":                 "\x02\x02\x01\x00\x00" + zero + "\x00",
		"65 nodes":                           "\x41" + strings.Repeat("\x01", 65) + "\x00\x00" + zero + "\x00",
		"14 hints":                           "\x00\x0e" + strings.Repeat("abcd", 14) + "\x00" + zero + "\x00",
		"an anchor without a text":           "\x00\x00\x01\x01a\x00\x00" + zero + "\x00",
		"a text of 201 bytes":                "\x00\x00\x01\x01a\x00\xc9" + x(201) + zero + "\x00",
		"an anchor's name with a pointer":    "\x00\x00\x01\xc0\x00\x01t" + zero + "\x00",
		"an anchor's name behind a pointer":  "\x00\x00\x01\x01a\xc0\x00\x01t" + zero + "\x00",
		"an anchor's name of 256 bytes":      "\x00\x00\x01" + long(256) + "\x01t" + zero + "\x00",
		"anchors of one name":                "\x00\x00\x02\x01a\x00\x01t\x01A\x00\x01t" + zero + "\x00",
		"a negative epoch":                   "\x00\x00\x00" + strings.Repeat("\xff", 8) + "\x00",
		"an epoch of 2^40 + 1":               "\x00\x00\x00\x00\x00\x01\x00\x00\x00\x00\x01\x00",
		"an epoch of 2^63":                   "\x00\x00\x00\x80\x00\x00\x00\x00\x00\x00\x00\x00",
		"an epoch of 2^56":                   "\x00\x00\x00\x01\x00\x00\x00\x00\x00\x00\x00\x00",
		"a flush ahead of the first":         "\x00\x00\x00" + zero + "\x01" + zero + "\x00",
		"a flush behind the epoch":           "\x00\x00\x00" + zero[:7] + "\x01\x01" + zero[:7] + "\x02\x00",
		"a flush whose zone is upper case":   "\x00\x00\x00" + zero[:7] + "\x01\x01" + zero[:7] + "\x01\x01A\x00",
		"a flush whose zone has a pointer":   "\x00\x00\x00" + zero[:7] + "\x01\x01" + zero[:7] + "\x01\xc0\x00",
		"a flush without a zone":             "\x00\x00\x00" + zero[:7] + "\x01\x01" + zero[:7] + "\x01",
		"a flush under a later one":          "\x00\x00\x00" + zero[:7] + "\x02\x02" + zero[:7] + "\x01\x01a\x00" + zero[:7] + "\x02\x00",
		"a count of flushes that is missing": "\x00\x00\x00" + zero,
	} {
		if c, err := Load(s); !sameConf(c, api.Conf{}) || err != api.ErrForm {
			t.Errorf("%s: Load is %s, %d", what, show(c), err)
		}
		holds(t, what+", by the words", !likeLoad(t, s))
	}
	holds(t, "an epoch of 2^40", likeLoad(t, "\x00\x00\x00\x00\x00\x01\x00\x00\x00\x00\x00\x00"))
}

func TestLoadKeepsNothingOfItsArgument(t *testing.T) {
	s := Snap(big())
	c, err := Load(s)
	gives(t, "Load", err, api.OK)
	parts := slices.Clone(c.Hints)
	for _, a := range c.Anchors {
		parts = append(parts, a.Name, a.Text)
	}
	for _, f := range c.Flushes {
		parts = append(parts, f.Zone)
	}
	for _, part := range parts {
		holds(t, "that Load's answer has memory of its own", !inside(part, s))
	}
	spoil(c)
	again, _ := Load(s)
	isConf(t, "Load again", again, big())
}

// Configurations that are valid, or nearly so.
func TestRandomSnaps(t *testing.T) {
	r := rand.New(rand.NewSource(4))
	for seed := range int64(30) {
		walk(seed, 200, func(_ api.Conf, _ api.Order, c api.Conf, _ api.Errno) {
			likeSnap(t, "a valid configuration", c)
			c = copyOf(c)
			disturb(r, &c)
			likeSnap(t, "a changed configuration", c)
		})
	}
}

// disturb changes something in a configuration.
func disturb(r *rand.Rand, c *api.Conf) {
	i, j := r.Intn(len(c.Ring)+1), r.Intn(len(c.Flushes)+1)
	k, l := r.Intn(len(c.Anchors)+1), r.Intn(len(c.Flushes)+1)
	switch {
	case r.Intn(2) == 0 && j != l && max(j, l) < len(c.Flushes):
		c.Flushes[j].Zone, c.Flushes[l].Zone = c.Flushes[l].Zone, c.Flushes[j].Zone
	case r.Intn(2) == 0 && k < len(c.Anchors):
		c.Anchors[k].Name = randomName(r)
	case r.Intn(2) == 0 && i < len(c.Ring):
		c.Ring[i] += r.Intn(3) - 1
	case r.Intn(2) == 0 && j < len(c.Flushes):
		c.Flushes[j].Epoch += r.Intn(5) - 2
	case r.Intn(2) == 0 && j < len(c.Flushes):
		c.Flushes[j].Zone = randomName(r)
	default:
		c.Epoch -= r.Intn(3)
	}
}

// P13.5

// worldNames are all names of the world of randomName, in one case, and some that are in no zone of it.
func worldNames() []string {
	out := []string{"\x00"}
	level := []string{"\x00"}
	for range 3 {
		var next []string
		for _, n := range level {
			for _, l := range []string{"a", "b", "aa", "ab", "c", "d", "e"} {
				next = append(next, string([]byte{byte(len(l))})+l+n)
			}
		}
		out, level = append(out, next...), next
	}
	return out
}

func TestFloorsAndFlushes(t *testing.T) {
	all := worldNames()
	r := rand.New(rand.NewSource(5))
	for seed := range int64(12) {
		walk(seed, 300, func(before api.Conf, o api.Order, c api.Conf, err api.Errno) {
			if !rightByWords(c) || !Right(c) {
				t.Fatalf("Apply of %s to %s is %s, which is not valid", show(o), show(before), show(c))
			}
			flushed := o.Kind == api.OrderFlush && err == api.OK
			if flushed != (c.Epoch != before.Epoch) || flushed && c.Epoch != before.Epoch+1 {
				t.Fatalf("Apply of %s: the epoch was %d, and is %d", show(o), before.Epoch, c.Epoch)
			}
			root := flushed && c.Flushes[len(c.Flushes)-1].Zone == "\x00"
			for range 30 {
				n := all[r.Intn(len(all))]
				if r.Intn(3) == 0 {
					n = o.Zone
				}
				was, is := Floor(before, n), Floor(c, n)
				want := was
				if flushed && (in(n, o.Zone) || root) {
					want = c.Epoch
				}
				if is != want || is < was {
					t.Fatalf("Apply of %s to %s: the floor of %q was %d, and is %d", show(o), show(before), n, was, is)
				}
			}
		})
	}
}

// Whatever a valid configuration has been, what is applied to it leaves a valid one.
func TestApplyToTheGreatest(t *testing.T) {
	c := big()
	for _, o := range append(fewOrders(), leaves(5), anchors(c.Anchors[5].Name, ""), anchors(c.Anchors[5].Name, "t"), anchors(strings.ToUpper(c.Anchors[0].Name), x(200)), flushes(c.Flushes[9].Zone)) {
		likeWords(t, c, o)
		c.Epoch--
		c.Flushes = c.Flushes[:31]
		got, _ := likeWords(t, c, o)
		holds(t, "that it is right", Right(got) && rightByWords(got))
		c = big()
	}
}

// P1: what is far from valid ends, too.

func TestFarFromValid(t *testing.T) {
	many := api.Conf{Epoch: math.MaxInt}
	for i := range 2000 {
		many.Ring = append(many.Ring, math.MinInt+i*7919%1000, math.MaxInt)
		many.Hints = append(many.Hints, x(i))
		many.Anchors = append(many.Anchors, api.Anchor{Name: someNames()[i%12], Text: x(i)}, api.Anchor{Name: anchorName(i % 26)})
		many.Flushes = append(many.Flushes, api.Flush{Epoch: math.MinInt + i, Zone: someNames()[i%12]}, api.Flush{Epoch: -i, Zone: zoneName(i % 600)})
	}
	least := copyOf(many)
	least.Epoch = math.MinInt
	wrong := []api.Conf{many, least, {Epoch: -1}, {Ring: []int{5, 5, 1, -3, 5}}, {Flushes: []api.Flush{{}, {}, {Epoch: 3}}}, {Anchors: []api.Anchor{{}, {}, {Name: "z"}, {Name: dotted("a.")}}}}
	for _, c := range wrong {
		isRight(t, "far from valid", c, false)
		before := copyOf(c)
		for _, o := range append(fewOrders(), leaves(5), joins(5), api.Order{}) {
			got, err := Apply(c, o)
			if err != api.OK {
				isConf(t, "beside an error", got, before)
			}
			isConf(t, "the argument", c, before)
		}
		for _, n := range someNames() {
			holds(t, "the floor", Floor(c, n) == floorByWords(c, n))
		}
	}
}

// R4: the same calls answer the same.
func TestTwiceTheSame(t *testing.T) {
	tell := func() string {
		out := ""
		walk(11, 300, func(_ api.Conf, o api.Order, c api.Conf, err api.Errno) {
			s, wrong := Bytes(o)
			out += fmt.Sprint(c, int(err), s, int(wrong), Snap(c), Floor(c, o.Zone))
		})
		return out
	}
	holds(t, "that the same calls answer the same", tell() == tell())
}
