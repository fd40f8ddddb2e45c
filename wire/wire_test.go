package wire_test

import (
	"errors"
	"testing"

	"hearsay/api"
	"hearsay/fault"
	"hearsay/wire"
)

var three = api.Config{Nodes: 3, Window: 2, Body: 5, Last: 9}

func TestDecodeWrapsKindAndPlace(t *testing.T) {
	s, err := wire.Encode(three, api.Frame{Kind: api.State, From: 2, Vector: []int{1, 1, 0}})
	if err != nil {
		t.Fatal(err)
	}
	for text, want := range map[string]int{"": 0, s[:14]: 14, "x" + s[1:]: 0, s[:14] + "x": 11} {
		_, err := wire.Decode(three, text)
		var at fault.At
		if !errors.Is(err, fault.Frame) || !errors.As(err, &at) || at.Place != want {
			t.Errorf("Decode(%x): %v, want no frame at %d", text, err, want)
		}
	}
}

func TestEncodeWrapsKind(t *testing.T) {
	for _, f := range []api.Frame{
		{},
		{Kind: api.State, From: 3, Vector: []int{0, 0, 0}},
		{Kind: api.State, Seq: 1, Vector: []int{0, 0, 0}},
		{Kind: api.State},
		{Kind: api.Data, Vector: []int{0, 0, 0}},
	} {
		if _, err := wire.Encode(three, f); !errors.Is(err, fault.Frame) {
			t.Errorf("Encode(%+v): %v, which does not wrap %v", f, err, fault.Frame)
		}
	}
}

func TestNoGroupWrapsArg(t *testing.T) {
	_, err := wire.Encode(api.Config{}, api.Frame{})
	if !errors.Is(err, fault.Arg) || errors.Is(err, fault.Frame) {
		t.Errorf("Encode for no group: %v", err)
	}
	_, err = wire.Decode(api.Config{}, "")
	var at fault.At
	if !errors.Is(err, fault.Arg) || errors.As(err, &at) {
		t.Errorf("Decode for no group: %v", err)
	}
}
