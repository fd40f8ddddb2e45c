package group_test

import (
	"errors"
	"math"
	"testing"

	"hearsay/api"
	"hearsay/fault"
	"hearsay/group"
)

func TestCheckWrapsArg(t *testing.T) {
	if err := group.Check(api.Config{Nodes: 2, Window: 1, Last: 1}); err != nil {
		t.Errorf("a group that may be is refused: %v", err)
	}
	for _, c := range []api.Config{
		{Nodes: 1, Window: 1, Last: 1}, {Nodes: 2, Window: 9, Last: 1}, {Nodes: 2, Window: 1, Body: 41, Last: 1}, {Nodes: 2, Window: 1},
	} {
		if err := group.Check(c); !errors.Is(err, fault.Arg) {
			t.Errorf("Check(%+v) = %v, which does not wrap %v", c, err, fault.Arg)
		}
	}
}

func TestHas(t *testing.T) {
	c := api.Config{Nodes: 3, Window: 1, Last: 1}
	for p, want := range map[int]bool{math.MinInt: false, -1: false, 0: true, 2: true, 3: false, math.MaxInt: false} {
		if group.Has(c, p) != want {
			t.Errorf("Has(%d) is not %t", p, want)
		}
	}
}
