package hearsay_test

import (
	"reflect"
	"slices"
	"testing"
	"unsafe"

	"hearsay/api"
	"hearsay/hearsay"
)

// scribble writes into a list and its spare room, as its owner may.
func scribble[E any](l []E, e E) {
	l = l[:cap(l)]
	for i := range l {
		l[i] = e
	}
}

func scribbleAll(a everything) {
	scribble(a.heard, word(9, 99, "?"))
	scribble(a.store, word(9, 99, "?"))
	scribble(a.clock, 99)
	for _, v := range a.views {
		scribble(v, 99)
	}
	scribble(a.tick, api.Packet{To: 99, Text: "?"})
}

// busyNode gives a node with words heard, kept and held back, after each step writing into all that came out.
func busyNode(t *testing.T, write bool) *hearsay.Node {
	b := newBench(t, three, 1)
	after := func(packets []api.Packet) {
		if write {
			scribble(packets, api.Packet{To: 99, Text: "?"})
			scribbleAll(all(b.node, three))
		}
	}
	_, l, _ := b.node.Say("own")
	after(l)
	for _, s := range []string{
		b.data(0, 0, 1, 0, "a", 0, 0, 0), b.data(2, 2, 2, 0, "late", 1, 0, 1), b.data(0, 0, 2, 0, "b", 1, 0, 0),
		b.state(0, 1, 1, 0), b.state(2, 1, 0, 0), b.data(2, 2, 1, 0, "c", 2, 0, 0), "no frame",
	} {
		l, _ := b.node.Hear(s)
		after(l)
	}
	_, l, _ = b.node.Say("more")
	after(l)
	return b.node
}

// P2: nothing hangs on what is written into the lists that come out.
func TestNodeGivesNewLists(t *testing.T) {
	left, written := busyNode(t, false), busyNode(t, true)
	if a, b := all(left, three), all(written, three); !reflect.DeepEqual(a, b) {
		t.Errorf("P2: a node is %+v, and %+v where its lists were written into", a, b)
	}
	a, b := all(left, three), all(left, three)
	scribbleAll(a)
	if again := all(left, three); !reflect.DeepEqual(b, again) {
		t.Errorf("P2: lists that came out: %+v, and others behind them: %+v", b, again)
	}
}

// P2: lists that come out of one call, or of several, share nothing.
func TestNodeListsShareNothing(t *testing.T) {
	n := busyNode(t, false)
	heard, store, clock, tick := n.Heard(), n.Store(), n.Clock(), n.Tick()
	view, _ := n.View(1)
	words := [][]api.Word{slices.Clone(heard), slices.Clone(store)}
	numbers := [][]int{slices.Clone(clock), slices.Clone(view)}
	packets := slices.Clone(tick)
	n.Hear(encoded(three, api.Frame{Kind: api.Data, Seq: 3, Low: 2, Vector: []int{2, 0, 0}, Body: "d"}))
	n.Say("on")
	n.Hear(encoded(three, api.Frame{Kind: api.State, Vector: []int{9, 9, 9}}))
	n.Hear(encoded(three, api.Frame{Kind: api.State, From: 2, Vector: []int{9, 9, 9}}))
	if len(n.Store()) != 0 {
		t.Fatalf("P9: the store is %v, want none", n.Store())
	}
	if !reflect.DeepEqual(words, [][]api.Word{heard, store}) || !reflect.DeepEqual(numbers, [][]int{clock, view}) || !reflect.DeepEqual(packets, tick) {
		t.Errorf("P2: lists that came out change with the node")
	}
}

// P2: a node hangs on no memory of a text that was handed in.
func TestNodeKeepsNoText(t *testing.T) {
	n := newBench(t, three, 0).node
	body := []byte("own")
	n.Say(unsafe.String(&body[0], len(body)))
	text := []byte(encoded(three, api.Frame{Kind: api.Data, From: 1, Origin: 1, Seq: 1, Vector: []int{0, 0, 0}, Body: "hi"}))
	n.Hear(unsafe.String(&text[0], len(text)))
	was := all(n, three)
	clear(body)
	clear(text)
	if is := all(n, three); !reflect.DeepEqual(was, is) || is.heard[0] != word(0, 1, "own") || is.heard[1] != word(1, 1, "hi") {
		t.Errorf("P2: a node is %+v once the memory of its texts is written into", is)
	}
}

// P2: nodes with the same number, of the same group, have nothing to do with one another.
func TestNodesAreApart(t *testing.T) {
	still := newBench(t, three, 1)
	was := all(still.node, three)
	busyNode(t, false)
	still.unchanged(was)
}
