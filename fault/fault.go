// Package fault: what is refused deep inside, as error values that wrap what they were made of.
package fault

import (
	"errors"
	"strconv"
)

// The kinds of refusals, one for each number that a face may answer.
var (
	Arg   = errors.New("an argument that may not be")
	Long  = errors.New("a text above its bound")
	Spent = errors.New("no number is left")
	Busy  = errors.New("too many words are under way")
	Frame = errors.New("no frame")
	Self  = errors.New("a frame that the node itself might have sent")
	Old   = errors.New("a word that the node has, or had")
	Far   = errors.New("a word too far ahead")
)

// Why is a refusal that tells what was wrong; it wraps the kind of refusal that this is.
type Why struct {
	What string
	Kind error
}

func (w Why) Error() string { return w.Kind.Error() + ": " + w.What }

func (w Why) Unwrap() error { return w.Kind }

// At is a refusal of a text at a place in it; it wraps what was wrong there.
type At struct {
	Place int
	Cause error
}

func (a At) Error() string { return "at " + strconv.Itoa(a.Place) + ": " + a.Cause.Error() }

func (a At) Unwrap() error { return a.Cause }
