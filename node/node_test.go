package node_test

import (
	"errors"
	"testing"

	"hearsay/api"
	"hearsay/fault"
	"hearsay/node"
	"hearsay/wire"
)

var three = api.Config{Nodes: 3, Window: 2, Body: 5, Last: 9}

func newNode(t *testing.T, c api.Config, p int) *node.Node {
	t.Helper()
	n, err := node.New(c, p)
	if err != nil {
		t.Fatal(err)
	}
	return n
}

func text(t *testing.T, from, origin, seq int) string {
	t.Helper()
	f := api.Frame{Kind: api.Data, From: from, Origin: origin, Seq: seq, Low: seq - 1, Vector: make([]int, 3)}
	f.Vector[origin] = seq - 1
	s, err := wire.Encode(three, f)
	if err != nil {
		t.Fatal(err)
	}
	return s
}

func TestNoNodeWrapsArg(t *testing.T) {
	for p, c := range map[int]api.Config{0: {}, 3: three, -1: three} {
		if n, err := node.New(c, p); n != nil || !errors.Is(err, fault.Arg) {
			t.Errorf("New(%+v, %d) = %v, %v, which does not wrap %v", c, p, n, err, fault.Arg)
		}
	}
	if _, err := newNode(t, three, 0).View(3); !errors.Is(err, fault.Arg) {
		t.Errorf("View(3): %v, which does not wrap %v", err, fault.Arg)
	}
}

// What is right, but not for this node, wraps its kind, and it wraps no other.
func TestHearWrapsKind(t *testing.T) {
	n := newNode(t, three, 0)
	if _, err := n.Hear(text(t, 1, 1, 1)); err != nil {
		t.Fatal(err)
	}
	for s, want := range map[string]error{
		"": fault.Frame, text(t, 0, 1, 1): fault.Self, text(t, 1, 0, 1): fault.Self, text(t, 2, 1, 1): fault.Old, text(t, 1, 1, 4): fault.Far,
	} {
		_, err := n.Hear(s)
		for _, kind := range []error{fault.Arg, fault.Long, fault.Spent, fault.Busy, fault.Frame, fault.Self, fault.Old, fault.Far} {
			if errors.Is(err, kind) != (kind == want) {
				t.Errorf("Hear(%x): %v, want %v", s, err, want)
			}
		}
	}
}

// A frame's bytes that are refused keep their place on the way up; a right frame that is refused has none.
func TestHearWrapsPlace(t *testing.T) {
	n := newNode(t, three, 0)
	var at fault.At
	if _, err := n.Hear(text(t, 1, 1, 1)[:14]); !errors.As(err, &at) || at.Place != 14 {
		t.Errorf("Hear of a cut text: %v, want no frame at 14", err)
	}
	if _, err := n.Hear(text(t, 0, 1, 1)); errors.As(err, &at) {
		t.Errorf("Hear of an own frame: %v has a place", err)
	}
}

func TestSayWrapsKind(t *testing.T) {
	n := newNode(t, api.Config{Nodes: 2, Window: 1, Body: 1, Last: 2}, 0)
	if _, _, err := n.Say("12"); !errors.Is(err, fault.Long) {
		t.Errorf("Say of a long text: %v", err)
	}
	n.Say("1")
	if _, _, err := n.Say("2"); !errors.Is(err, fault.Busy) {
		t.Errorf("Say with a word under way: %v", err)
	}
	n = newNode(t, api.Config{Nodes: 2, Window: 1, Body: 1, Last: 1}, 0)
	n.Say("1")
	if _, _, err := n.Say("2"); !errors.Is(err, fault.Spent) {
		t.Errorf("Say behind the last word: %v", err)
	}
}
