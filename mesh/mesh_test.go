package mesh_test

import (
	"errors"
	"strings"
	"testing"

	"hearsay/api"
	"hearsay/fault"
	"hearsay/mesh"
)

var three = api.Config{Nodes: 3, Window: 2, Body: 5, Last: 9}

func newMesh(t *testing.T) *mesh.Mesh {
	t.Helper()
	m, err := mesh.New(three)
	if err != nil {
		t.Fatal(err)
	}
	return m
}

func TestNoMeshWrapsArg(t *testing.T) {
	if m, err := mesh.New(api.Config{}); m != nil || !errors.Is(err, fault.Arg) {
		t.Errorf("New of no group = %v, %v, which does not wrap %v", m, err, fault.Arg)
	}
}

// What the net itself refuses wraps its kind, and tells what was wrong.
func TestRefusalsWrapKind(t *testing.T) {
	m := newMesh(t)
	_, noSay := m.Say(3, "")
	_, noPeek := m.Peek(0)
	_, noCount := m.Refused(-1)
	for what, err := range map[string]error{
		"Say": noSay, "Peek": noPeek, "Refused": noCount, "Tick": m.Tick(3), "Drop": m.Drop(0), "Copy": m.Copy(0), "Deliver": m.Deliver(0), "Send": m.Send(3, ""),
	} {
		var why fault.Why
		if !errors.Is(err, fault.Arg) || !errors.As(err, &why) || why.What == "" {
			t.Errorf("%s: %v, which does not tell why and wrap %v", what, err, fault.Arg)
		}
	}
	if err := m.Send(0, strings.Repeat("x", api.MaxFrame+1)); !errors.Is(err, fault.Long) {
		t.Errorf("Send of a long text: %v, which does not wrap %v", err, fault.Long)
	}
}

// What a node refuses comes up whole: its kind, and the place in a text that is no frame.
func TestNodeRefusalsComeUp(t *testing.T) {
	m := newMesh(t)
	if _, err := m.Say(0, "123456"); !errors.Is(err, fault.Long) {
		t.Errorf("Say of a long text: %v, which does not wrap %v", err, fault.Long)
	}
	m.Send(1, "hs?")
	err := m.Deliver(0)
	var at fault.At
	if !errors.Is(err, fault.Frame) || !errors.As(err, &at) || at.Place != 3 {
		t.Errorf("Deliver of a short text: %v, want no frame at 3", err)
	}
}
