package fault_test

import (
	"errors"
	"testing"

	"hearsay/fault"
)

func TestWrappedKindIsFound(t *testing.T) {
	why := fault.Why{What: "From is no node", Kind: fault.Frame}
	for _, err := range []error{why, fault.At{Place: 4, Cause: why}} {
		if !errors.Is(err, fault.Frame) {
			t.Errorf("%v is not found to be of its kind", err)
		}
		if errors.Is(err, fault.Arg) {
			t.Errorf("%v is found to be of another kind", err)
		}
	}
}

func TestWrappedPartsAreFound(t *testing.T) {
	var err error = fault.At{Place: 4, Cause: fault.Why{What: "From is no node", Kind: fault.Frame}}
	var at fault.At
	if !errors.As(err, &at) || at.Place != 4 {
		t.Errorf("the place of %v is told as %d", err, at.Place)
	}
	var why fault.Why
	if !errors.As(err, &why) || why.What != "From is no node" {
		t.Errorf("the reason of %v is told as %q", err, why.What)
	}
	if errors.As(errors.Unwrap(err), &at) {
		t.Errorf("%v has a place", errors.Unwrap(err))
	}
}

func TestErrorTells(t *testing.T) {
	err := fault.At{Place: 12, Cause: fault.Why{What: "the check sum is not right", Kind: fault.Frame}}
	if s := err.Error(); s != "at 12: no frame: the check sum is not right" {
		t.Errorf("the error tells %q", s)
	}
}
