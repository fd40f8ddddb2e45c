package hearsay_test

import (
	"math"
	"slices"
	"strings"
	"testing"

	"hearsay/api"
	"hearsay/hearsay"
)

func TestNewNode(t *testing.T) {
	for _, c := range []api.Config{small, three, great} {
		for p := range c.Nodes {
			b := newBench(t, c, p)
			zero := make([]int, c.Nodes)
			b.hasHeard()
			b.keeps()
			b.hasClock(zero...)
			for q := range c.Nodes {
				b.views(q, zero...)
			}
		}
		for _, p := range []int{math.MinInt, -1, c.Nodes, c.Nodes + 1, 256, 1 << 32, math.MaxInt} {
			if n, e := hearsay.NewNode(c, p); n != nil || e != api.ErrArg {
				t.Errorf("P7: NewNode(%+v, %d) = %v, %d, want nil, ErrArg", c, p, n, e)
			}
		}
	}
	for _, c := range noGroups {
		for _, p := range []int{math.MinInt, -1, 0, 1, math.MaxInt} {
			if n, e := hearsay.NewNode(c, p); n != nil || e != api.ErrArg {
				t.Errorf("P7: NewNode(%+v, %d) = %v, %d, want nil, ErrArg", c, p, n, e)
			}
		}
	}
}

// The document's examples, from "Node 0 says" to "Node 0 hears that State".
func TestNodeExamples(t *testing.T) {
	a, b, c := newBench(t, three, 0), newBench(t, three, 1), newBench(t, three, 2)
	hi := unhex(hiBytes)
	a.says("hi", 1, to(hi, 1, 2))
	a.says("x", 2, to(a.data(0, 0, 2, 0, "x", 1, 0, 0), 1, 2))
	a.cannotSay("y", api.ErrBusy)

	hiFrom1 := unhex("6873 01 03 01 00 0001 0000 000000000000 02 6869 8d3503f7")
	b.hears(hi, to(hiFrom1, 2))
	b.hasClock(1, 0, 0)
	re := unhex("6873 01 03 01 01 0001 0000 000100000000 02 7265 650b54ef")
	b.says("re", 1, to(re, 0, 2))

	reFrom2, hiFrom2 := c.data(2, 1, 1, 0, "re", 1, 0, 0), c.data(2, 0, 1, 0, "hi", 0, 0, 0)
	c.hears(re, to(reFrom2, 0))
	c.hasHeard()
	c.keeps(word(1, 1, "re"))
	c.hears(hi, to(hiFrom2, 1))
	c.hasHeard(word(0, 1, "hi"), word(1, 1, "re"))
	c.keeps(word(0, 1, "hi"), word(1, 1, "re"))
	c.refuses(hi, api.ErrOld)
	a.refuses(hi, api.ErrSelf)
	state := unhex(stateBytes)
	c.ticks(slices.Concat(to(reFrom2, 0), to(state, 0), to(hiFrom2, 1), to(state, 1)))

	a.hears(state, nil)
	a.views(2, 1, 1, 0)
	a.keeps(word(0, 1, "hi"), word(0, 2, "x"))
	a.cannotSay("y", api.ErrBusy)
	a.hears(a.state(1, 1, 1, 0), nil)
	a.keeps(word(0, 2, "x"))
	a.says("y", 3, to(a.data(0, 0, 3, 1, "y", 2, 0, 0), 1, 2))
}

// P8: what a node that has heard others tells in its words, and what it does with its own.
func TestSayTellsWhatWasHeard(t *testing.T) {
	b := newBench(t, three, 1)
	b.hears(b.data(0, 0, 1, 0, "a", 0, 0, 0), to(b.data(1, 0, 1, 0, "a", 0, 0, 0), 2))
	b.hears(b.data(2, 2, 1, 0, "b", 0, 0, 0), to(b.data(1, 2, 1, 0, "b", 0, 0, 0), 0))
	b.says("fives", 1, to(b.data(1, 1, 1, 0, "fives", 1, 0, 1), 0, 2))
	b.hasClock(1, 1, 1)
	b.hears(b.data(0, 0, 2, 0, "c", 1, 0, 0), to(b.data(1, 0, 2, 0, "c", 1, 0, 0), 2))
	b.says("", 2, to(b.data(1, 1, 2, 0, "", 2, 1, 1), 0, 2))
	b.hasHeard(word(0, 1, "a"), word(2, 1, "b"), word(1, 1, "fives"), word(0, 2, "c"), word(1, 2, ""))
	b.keeps(word(0, 1, "a"), word(0, 2, "c"), word(1, 1, "fives"), word(1, 2, ""), word(2, 1, "b"))
	b.views(1, 2, 2, 1)
	b.views(0, 0, 0, 0)
}

// P1, P8: of several errors, the one that is named first.
func TestSayErrors(t *testing.T) {
	b := newBench(t, three, 0)
	b.cannotSay("sixsix", api.ErrLong)
	b.cannotSay(strings.Repeat("x", 1<<20), api.ErrLong)
	b.says("fives", 1, to(b.data(0, 0, 1, 0, "fives", 0, 0, 0), 1, 2))
	b.says("", 2, to(b.data(0, 0, 2, 0, "", 1, 0, 0), 1, 2))
	b.cannotSay("", api.ErrBusy)
	b.cannotSay("sixsix", api.ErrLong)

	s := newBench(t, small, 1)
	s.cannotSay("x", api.ErrLong)
	s.says("", 1, to(s.data(1, 1, 1, 0, "", 0, 0), 0))
	s.cannotSay("", api.ErrSpent)
	s.cannotSay("x", api.ErrLong)
	s.hears(s.state(0, 0, 1), nil)
	s.cannotSay("", api.ErrSpent)
}

// P8: the node is busy by its own Low: by what the last of the others is known to have heard.
func TestSayBusy(t *testing.T) {
	b := newBench(t, three, 2)
	b.says("1", 1, to(b.data(2, 2, 1, 0, "1", 0, 0, 0), 0, 1))
	b.says("2", 2, to(b.data(2, 2, 2, 0, "2", 0, 0, 1), 0, 1))
	b.cannotSay("3", api.ErrBusy)
	b.hears(b.state(0, 0, 0, 2), nil)
	b.cannotSay("3", api.ErrBusy)
	b.hears(b.state(1, 9, 9, 1), nil)
	b.keeps(word(2, 2, "2"))
	b.says("3", 3, to(b.data(2, 2, 3, 1, "3", 0, 0, 2), 0, 1))
	b.cannotSay("4", api.ErrBusy)
	b.hears(b.state(1, 0, 0, 2), nil)
	b.says("4", 4, to(b.data(2, 2, 4, 2, "4", 0, 0, 3), 0, 1))
	b.cannotSay("5", api.ErrBusy)
	b.keeps(word(2, 3, "3"), word(2, 4, "4"))
}

// P8: a word's Low is that of the moment ahead of it, and one that all are known to have heard is forgotten at once.
func TestSayForgets(t *testing.T) {
	b := newBench(t, three, 1)
	b.hears(b.state(0, 0, 9, 0), nil)
	b.hears(b.state(2, 0, 2, 0), nil)
	for i, low := range []int{0, 1, 2, 2} {
		deps := []int{0, i, 0}
		b.says("w", i+1, to(b.data(1, 1, i+1, low, "w", deps...), 0, 2))
	}
	b.keeps(word(1, 3, "w"), word(1, 4, "w"))
	b.cannotSay("w", api.ErrBusy)
	b.views(0, 0, 9, 0)
	b.views(2, 0, 2, 0)
	b.hasClock(0, 4, 0)
}

// P8: up to the last number there is.
func TestSayLast(t *testing.T) {
	c := api.Config{Nodes: 2, Window: 8, Body: 40, Last: 65535}
	b := newBench(t, c, 0)
	b.hears(b.state(1, 65535, 0), nil)
	for i := 1; i <= 65535; i++ {
		if seq, l, e := b.node.Say(""); seq != i || len(l) != 1 || e != api.OK {
			t.Fatalf("P8: Say = %d, %x, %d, want %d, a packet, OK", seq, l, e, i)
		}
	}
	b.keeps()
	b.hasClock(65535, 0)
	b.cannotSay("", api.ErrSpent)
	if l := b.node.Heard(); len(l) != 65535 || l[65534] != word(0, 65535, "") {
		t.Errorf("P12: Heard() has %d words", len(l))
	}
	b.ticks(to(b.state(0, 65535, 0), 1))
}

// P8: by its words, saying does not let others be heard: only a Data frame does (P10).
func TestSayHearsItsOwnAlone(t *testing.T) {
	b := newBench(t, three, 0)
	b.hears(b.data(1, 1, 1, 0, "ahead", 1, 0, 0), to(b.data(0, 1, 1, 0, "ahead", 1, 0, 0), 2))
	b.says("own", 1, to(b.data(0, 0, 1, 0, "own", 0, 0, 0), 1, 2))
	b.hasHeard(word(0, 1, "own"))
	b.hears(b.state(2, 1, 1, 0), nil)
	b.hasHeard(word(0, 1, "own"))
	b.hears(b.data(2, 2, 1, 0, "go", 0, 0, 0), to(b.data(0, 2, 1, 0, "go", 0, 0, 0), 1))
	b.hasHeard(word(0, 1, "own"), word(1, 1, "ahead"), word(2, 1, "go"))
}

// P9: views grow number by number and never shrink; nothing is heard, nothing passed on.
func TestHearState(t *testing.T) {
	b := newBench(t, three, 1)
	b.hears(b.state(0, 3, 0, 9), nil)
	b.hears(b.state(0, 2, 5, 0), nil)
	b.views(0, 3, 5, 9)
	b.views(1, 0, 0, 0)
	b.views(2, 0, 0, 0)
	b.hears(b.state(2, 0, 0, 1), nil)
	b.views(0, 3, 5, 9)
	b.views(2, 0, 0, 1)
	b.hasClock(0, 0, 0)
	b.hasHeard()
}

// P9: a State frame lets the words go that all are then known to have heard, of every origin, and no others.
func TestHearStateForgets(t *testing.T) {
	b := newBench(t, three, 2)
	for _, s := range []string{b.data(0, 0, 1, 0, "a", 0, 0, 0), b.data(0, 0, 2, 0, "b", 1, 0, 0), b.data(1, 1, 1, 0, "c", 0, 0, 0), b.data(1, 1, 2, 0, "far", 9, 1, 0)} {
		if _, e := b.node.Hear(s); e != api.OK {
			t.Fatalf("P10: Hear(%x) = %d", s, e)
		}
	}
	b.says("d", 1, to(b.data(2, 2, 1, 0, "d", 2, 1, 0), 0, 1))
	b.hears(b.state(0, 2, 9, 9), nil)
	b.keeps(word(0, 1, "a"), word(0, 2, "b"), word(1, 1, "c"), word(1, 2, "far"), word(2, 1, "d"))
	b.hears(b.state(1, 1, 9, 1), nil)
	b.keeps(word(0, 2, "b"), word(1, 2, "far"))
	b.hasHeard(word(0, 1, "a"), word(0, 2, "b"), word(1, 1, "c"), word(2, 1, "d"))
}

// P9: a text that is no frame, and a frame that this node might have sent; the first error that applies.
func TestHearErrors(t *testing.T) {
	b := newBench(t, three, 1)
	for _, s := range []string{"", "hs", "no frame", unhex(hiBytes)[:22] + "x", unhex(stateBytes) + "x", strings.Repeat("\xff", 1<<20)} {
		b.refuses(s, api.ErrFrame)
	}
	b.refuses(sealed("hs\x01\x03\x01\x01\x00\x00\x00\x00\x00\x00\x00\x00\x00\x00\x00"), api.ErrFrame)
	b.refuses(encoded(great, api.Frame{Kind: api.State, Vector: make([]int, 8)}), api.ErrFrame)
	b.refuses(b.state(1, 0, 0, 0), api.ErrSelf)
	b.refuses(b.state(1, 1, 9, 1), api.ErrSelf)
	b.refuses(b.data(1, 0, 1, 0, "x", 0, 0, 0), api.ErrSelf)
	b.refuses(b.data(1, 1, 1, 0, "x", 0, 0, 0), api.ErrSelf)
	b.refuses(b.data(0, 1, 1, 0, "x", 0, 0, 0), api.ErrSelf)
	b.refuses(b.data(2, 1, 9, 8, "x", 0, 8, 0), api.ErrSelf)
	b.refuses(b.data(1, 0, 9, 8, "x", 8, 0, 0), api.ErrSelf)
	b.says("own", 1, to(b.data(1, 1, 1, 0, "own", 0, 0, 0), 0, 2))
	b.refuses(b.data(0, 1, 1, 0, "own", 0, 0, 0), api.ErrSelf)
	b.hears(b.data(0, 0, 1, 0, "x", 0, 0, 0), to(b.data(1, 0, 1, 0, "x", 0, 0, 0), 2))
	b.refuses(b.data(1, 0, 1, 0, "x", 0, 0, 0), api.ErrSelf)
}

// P10: a word is known by its origin and number alone, while it is kept and when it is forgotten.
func TestHearOld(t *testing.T) {
	b := newBench(t, three, 2)
	b.hears(b.data(0, 0, 2, 0, "two", 1, 0, 0), to(b.data(2, 0, 2, 0, "two", 1, 0, 0), 1))
	b.refuses(b.data(0, 0, 2, 0, "two", 1, 0, 0), api.ErrOld)
	b.refuses(b.data(1, 0, 2, 1, "other", 1, 7, 0), api.ErrOld)
	b.hears(b.data(0, 0, 1, 0, "one", 0, 0, 0), to(b.data(2, 0, 1, 0, "one", 0, 0, 0), 1))
	b.refuses(b.data(1, 0, 1, 0, "one", 0, 0, 0), api.ErrOld)
	b.refuses(b.data(1, 0, 2, 1, "two", 1, 0, 0), api.ErrOld)
	b.hears(b.state(0, 2, 0, 0), nil)
	b.hears(b.state(1, 2, 0, 0), nil)
	b.keeps()
	b.refuses(b.data(0, 0, 1, 0, "one", 0, 0, 0), api.ErrOld)
	b.refuses(b.data(0, 0, 2, 1, "two", 1, 0, 0), api.ErrOld)
	b.hears(b.data(1, 1, 1, 0, "same", 0, 0, 0), to(b.data(2, 1, 1, 0, "same", 0, 0, 0), 0))
}

// P10: Window numbers ahead of the clock and no more, wherever the clock stands.
func TestHearFar(t *testing.T) {
	b := newBench(t, three, 2)
	b.refuses(b.data(0, 0, 3, 1, "c", 2, 0, 0), api.ErrFar)
	b.refuses(b.data(0, 0, 3, 2, "c", 2, 0, 0), api.ErrFar)
	b.refuses(b.data(0, 0, 9, 8, "i", 8, 0, 0), api.ErrFar)
	b.hears(b.data(0, 0, 2, 0, "b", 1, 0, 0), to(b.data(2, 0, 2, 0, "b", 1, 0, 0), 1))
	b.refuses(b.data(0, 0, 3, 1, "c", 2, 0, 0), api.ErrFar)
	b.hears(b.data(0, 0, 1, 0, "a", 0, 0, 0), to(b.data(2, 0, 1, 0, "a", 0, 0, 0), 1))
	b.refuses(b.data(0, 0, 5, 4, "e", 4, 0, 0), api.ErrFar)
	b.refuses(b.data(1, 1, 3, 2, "c", 0, 2, 0), api.ErrFar)
	b.hears(b.data(0, 0, 4, 2, "d", 3, 0, 0), to(b.data(2, 0, 4, 2, "d", 3, 0, 0), 1))
	b.keeps(word(0, 4, "d"))
	b.hasClock(2, 0, 0)
}

// P10, 1: a Low tells of all other nodes, of the origin's number alone, and never lowers it.
func TestHearLearnsLow(t *testing.T) {
	c := api.Config{Nodes: 4, Window: 3, Body: 5, Last: 99}
	b := newBench(t, c, 1)
	b.hears(b.state(2, 5, 6, 2, 8), nil)
	b.hears(b.data(3, 2, 3, 1, "c", 4, 4, 2, 4), to(b.data(1, 2, 3, 1, "c", 4, 4, 2, 4), 0))
	b.views(0, 0, 0, 1, 0)
	b.views(1, 0, 0, 0, 0)
	b.views(2, 5, 6, 2, 8)
	b.views(3, 0, 0, 1, 0)
	b.hears(b.data(3, 2, 2, 0, "b", 0, 0, 1, 0), to(b.data(1, 2, 2, 0, "b", 0, 0, 1, 0), 0))
	b.views(0, 0, 0, 1, 0)
	b.keeps(word(2, 2, "b"), word(2, 3, "c"))
	b.hasHeard()
}

// P10, 3: to all but this node, From and Origin; the same frame but for From.
func TestHearPassesOn(t *testing.T) {
	c := api.Config{Nodes: 5, Window: 3, Body: 5, Last: 99}
	for _, x := range []struct {
		from, origin int
		to           []int
	}{
		{0, 0, []int{1, 3, 4}}, {1, 0, []int{3, 4}}, {0, 1, []int{3, 4}}, {4, 3, []int{0, 1}}, {4, 4, []int{0, 1, 3}}, {3, 3, []int{0, 1, 4}},
	} {
		b := newBench(t, c, 2)
		deps := []int{7, 8, 9, 10, 11}
		deps[x.origin] = 1
		b.hears(b.data(x.from, x.origin, 2, 1, "\xff\x00", deps...), to(b.data(2, x.origin, 2, 1, "\xff\x00", deps...), x.to...))
	}
	s := newBench(t, small, 0)
	s.hears(s.data(1, 1, 1, 0, "", 0, 0), nil)
	s.hasHeard(word(1, 1, ""))
}

// P10, 4: of several words whose turn it is, that with the least origin; and it begins anew with each word that was heard.
func TestHearOrder(t *testing.T) {
	c := api.Config{Nodes: 4, Window: 3, Body: 5, Last: 99}
	b := newBench(t, c, 3)
	for _, s := range []string{
		b.data(2, 2, 1, 0, "2-1", 0, 1, 0, 0), b.data(2, 2, 2, 0, "2-2", 0, 1, 1, 0),
		b.data(1, 1, 2, 0, "1-2", 0, 1, 0, 0), b.data(1, 1, 3, 0, "1-3", 0, 2, 1, 0),
		b.data(0, 0, 1, 0, "0-1", 0, 2, 0, 0), b.data(0, 0, 2, 0, "0-2", 1, 0, 2, 0), b.data(0, 0, 3, 0, "0-3", 2, 4, 0, 0),
	} {
		if _, e := b.node.Hear(s); e != api.OK {
			t.Fatalf("P10: Hear(%x) = %d", s, e)
		}
		b.hasHeard()
	}
	b.hears(b.data(1, 1, 1, 0, "1-1", 0, 0, 0, 0), to(b.data(3, 1, 1, 0, "1-1", 0, 0, 0, 0), 0, 2))
	b.hasHeard(word(1, 1, "1-1"), word(1, 2, "1-2"), word(0, 1, "0-1"), word(2, 1, "2-1"), word(1, 3, "1-3"), word(2, 2, "2-2"), word(0, 2, "0-2"))
	b.hasClock(2, 3, 2, 0)
	b.hears(b.data(1, 1, 4, 1, "1-4", 0, 3, 0, 0), to(b.data(3, 1, 4, 1, "1-4", 0, 3, 0, 0), 0, 2))
	b.hasClock(3, 4, 2, 0)
}

// P10, 4: each number of the deps may hold a word back, that of this node too.
func TestHearHoldsBack(t *testing.T) {
	c := api.Config{Nodes: 4, Window: 3, Body: 5, Last: 99}
	for o := range 4 {
		b := newBench(t, c, 3)
		deps := make([]int, 4)
		deps[o]++
		origin := (o + 1) % 3
		b.hears(b.data(origin, origin, 1, 0, "late", deps...), to(b.data(3, origin, 1, 0, "late", deps...), others(3, origin)...))
		b.hasHeard()
		b.keeps(word(origin, 1, "late"))
	}
}

func others(nodes, but int) []int {
	var out []int
	for q := range nodes {
		if q != but {
			out = append(out, q)
		}
	}
	return out
}

// P10, 5: what a Low tells lets words go, but none that this node has not heard.
func TestHearForgets(t *testing.T) {
	b := newBench(t, three, 2)
	b.hears(b.data(0, 0, 1, 0, "a", 0, 0, 0), to(b.data(2, 0, 1, 0, "a", 0, 0, 0), 1))
	b.hears(b.data(0, 0, 2, 0, "b", 1, 0, 0), to(b.data(2, 0, 2, 0, "b", 1, 0, 0), 1))
	b.keeps(word(0, 1, "a"), word(0, 2, "b"))
	b.hears(b.data(0, 0, 4, 3, "d", 3, 0, 0), to(b.data(2, 0, 4, 3, "d", 3, 0, 0), 1))
	b.keeps(word(0, 4, "d"))
	b.views(0, 3, 0, 0)
	b.hasClock(2, 0, 0)
	b.hears(b.data(0, 0, 3, 1, "c", 2, 0, 0), to(b.data(2, 0, 3, 1, "c", 2, 0, 0), 1))
	b.keeps(word(0, 4, "d"))
	b.hasClock(4, 0, 0)
	b.hasHeard(word(0, 1, "a"), word(0, 2, "b"), word(0, 3, "c"), word(0, 4, "d"))
}

// P11: words that were not heard yet too; none to its origin, none that is known to be heard; the Low with which it came.
func TestTick(t *testing.T) {
	b := newBench(t, three, 1)
	empty := b.state(1, 0, 0, 0)
	b.ticks(to(empty, 0, 2))
	b.hears(b.data(2, 2, 2, 1, "late", 4, 0, 1), to(b.data(1, 2, 2, 1, "late", 4, 0, 1), 0))
	b.says("x", 1, to(b.data(1, 1, 1, 0, "x", 0, 0, 0), 0, 2))
	b.says("y", 2, to(b.data(1, 1, 2, 0, "y", 0, 1, 0), 0, 2))
	b.hears(b.data(0, 0, 1, 0, "z", 0, 0, 0), to(b.data(1, 0, 1, 0, "z", 0, 0, 0), 2))
	late, x, y, z := b.data(1, 2, 2, 1, "late", 4, 0, 1), b.data(1, 1, 1, 0, "x", 0, 0, 0), b.data(1, 1, 2, 0, "y", 0, 1, 0), b.data(1, 0, 1, 0, "z", 0, 0, 0)
	state := b.state(1, 1, 2, 0)
	b.ticks(slices.Concat(to(x, 0), to(y, 0), to(late, 0), to(state, 0), to(z, 2), to(x, 2), to(y, 2), to(state, 2)))
	b.hears(b.state(0, 0, 1, 2), nil)
	b.hears(b.state(2, 1, 0, 0), nil)
	b.ticks(slices.Concat(to(y, 0), to(state, 0), to(x, 2), to(y, 2), to(state, 2)))
}

func TestViewOfNoNode(t *testing.T) {
	for _, c := range []api.Config{small, three, great} {
		n := newBench(t, c, 1).node
		for _, q := range []int{math.MinInt, -1, c.Nodes, c.Nodes + 1, 256, 1 << 32, math.MaxInt} {
			if l, e := n.View(q); len(l) != 0 || e != api.ErrArg {
				t.Errorf("P12: View(%d) = %v, %d, want nil, ErrArg", q, l, e)
			}
		}
	}
}
