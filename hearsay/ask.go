package hearsay

import (
	"errors"

	"hearsay/api"
	"hearsay/fault"
)

// number asks an error value which number the caller is told.
func number(err error) api.Errno {
	switch {
	case errors.Is(err, fault.Arg):
		return api.ErrArg
	case errors.Is(err, fault.Frame):
		return api.ErrFrame
	}
	return api.OK
}

// place asks an error value for the place of the fault: 0, if it tells of none.
func place(err error) int {
	var at fault.At
	if errors.As(err, &at) {
		return at.Place
	}
	return 0
}
