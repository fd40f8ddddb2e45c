package hearsay

import (
	"errors"

	"hearsay/api"
	"hearsay/fault"
)

// number asks an error value which number the caller is told.
func number(err error) api.Errno {
	switch {
	case errors.Is(err, fault.Arg):
		return api.ErrArg
	case errors.Is(err, fault.Long):
		return api.ErrLong
	case errors.Is(err, fault.Spent):
		return api.ErrSpent
	case errors.Is(err, fault.Busy):
		return api.ErrBusy
	case errors.Is(err, fault.Frame):
		return api.ErrFrame
	case errors.Is(err, fault.Self):
		return api.ErrSelf
	case errors.Is(err, fault.Old):
		return api.ErrOld
	case errors.Is(err, fault.Far):
		return api.ErrFar
	}
	return api.OK
}

// place asks an error value for the place of the fault: 0, if it tells of none.
func place(err error) int {
	var at fault.At
	if errors.As(err, &at) {
		return at.Place
	}
	return 0
}
