package hearsay_test

import (
	"reflect"
	"slices"
	"testing"

	"hearsay/api"
	"hearsay/hearsay"
)

// bench is a node of a test, with the calls held against what is wanted.
type bench struct {
	*testing.T
	c    api.Config
	node *hearsay.Node
}

func newBench(t *testing.T, c api.Config, p int) bench {
	t.Helper()
	n, e := hearsay.NewNode(c, p)
	if n == nil || e != api.OK {
		t.Fatalf("P7: NewNode(%+v, %d) = %v, %d, want a node", c, p, n, e)
	}
	return bench{t, c, n}
}

// encoded tells a frame as bytes; only frames of the group come here.
func encoded(c api.Config, f api.Frame) string {
	s, e := hearsay.Encode(c, f)
	if e != api.OK {
		panic("a test has made what is no frame")
	}
	return s
}

// data is a Data frame's text. It ends with the deps, so that short calls stay readable.
func (b bench) data(from, origin, seq, low int, body string, deps ...int) string {
	return encoded(b.c, api.Frame{Kind: api.Data, From: from, Origin: origin, Seq: seq, Low: low, Vector: deps, Body: body})
}

func (b bench) state(from int, clock ...int) string {
	return encoded(b.c, api.Frame{Kind: api.State, From: from, Vector: clock})
}

// to lays the same text on the way to several nodes.
func to(text string, nodes ...int) []api.Packet {
	var out []api.Packet
	for _, q := range nodes {
		out = append(out, api.Packet{To: q, Text: text})
	}
	return out
}

func (b bench) says(body string, seq int, packets []api.Packet) {
	b.Helper()
	if s, l, e := b.node.Say(body); s != seq || !slices.Equal(l, packets) || e != api.OK {
		b.Errorf("P8: Say(%q) = %d, %x, %d, want %d, %x, OK", body, s, l, e, seq, packets)
	}
}

func (b bench) cannotSay(body string, want api.Errno) {
	b.Helper()
	was := all(b.node, b.c)
	if s, l, e := b.node.Say(body); s != 0 || len(l) != 0 || e != want {
		b.Errorf("P1, P8: Say(%.40q) = %d, %x, %d, want %d", body, s, l, e, want)
	}
	b.unchanged(was)
}

func (b bench) hears(s string, packets []api.Packet) {
	b.Helper()
	if l, e := b.node.Hear(s); !slices.Equal(l, packets) || e != api.OK {
		b.Errorf("P9, P10: Hear(%x) = %x, %d, want %x, OK", s, l, e, packets)
	}
}

func (b bench) refuses(s string, want api.Errno) {
	b.Helper()
	was := all(b.node, b.c)
	if l, e := b.node.Hear(s); len(l) != 0 || e != want {
		b.Errorf("P1, P9, P10: Hear(%.60x) = %x, %d, want %d", s, l, e, want)
	}
	b.unchanged(was)
}

func (b bench) ticks(packets []api.Packet) {
	b.Helper()
	was := all(b.node, b.c)
	if l := b.node.Tick(); !slices.Equal(l, packets) {
		b.Errorf("P11: Tick() = %x, want %x", l, packets)
	}
	b.unchanged(was)
}

func (b bench) unchanged(was everything) {
	b.Helper()
	if is := all(b.node, b.c); !reflect.DeepEqual(was, is) {
		b.Errorf("P1: what was %+v is now %+v", was, is)
	}
}

func (b bench) hasHeard(words ...api.Word) {
	b.Helper()
	if l := b.node.Heard(); !slices.Equal(l, words) {
		b.Errorf("P12: Heard() = %v, want %v", l, words)
	}
}

func (b bench) keeps(words ...api.Word) {
	b.Helper()
	if l := b.node.Store(); !slices.Equal(l, words) {
		b.Errorf("P12: Store() = %v, want %v", l, words)
	}
}

func (b bench) hasClock(clock ...int) {
	b.Helper()
	if l := b.node.Clock(); !slices.Equal(l, clock) {
		b.Errorf("P12: Clock() = %v, want %v", l, clock)
	}
}

func (b bench) views(q int, view ...int) {
	b.Helper()
	if l, e := b.node.View(q); !slices.Equal(l, view) || e != api.OK {
		b.Errorf("P12: View(%d) = %v, %d, want %v, OK", q, l, e, view)
	}
}

// everything that the calls tell of a node.
type everything struct {
	heard, store []api.Word
	clock        []int
	views        [][]int
	tick         []api.Packet
}

func all(n *hearsay.Node, c api.Config) everything {
	a := everything{heard: n.Heard(), store: n.Store(), clock: n.Clock(), tick: n.Tick()}
	for q := range c.Nodes {
		v, _ := n.View(q)
		a.views = append(a.views, v)
	}
	return a
}

func word(origin, seq int, body string) api.Word {
	return api.Word{Origin: origin, Seq: seq, Body: body}
}
