package wire

import (
	"hearsay/api"
	"hearsay/group"
)

// Encode tells a frame as bytes (P5).
func Encode(c api.Config, f api.Frame) (string, error) {
	if err := group.Check(c); err != nil {
		return "", err
	}
	if err := checkFrame(c, f); err != nil {
		return "", err
	}
	b := append(appendHead(nil, c, f), f.Body...)
	return string(appendNumber(b, Sum(string(b)), sumSize)), nil
}

func checkFrame(c api.Config, f api.Frame) error {
	if err := checkKind(f); err != nil {
		return err
	}
	if err := checkFrom(c, f); err != nil {
		return err
	}
	if f.Kind == api.State {
		return checkState(c, f)
	}
	return checkData(c, f)
}

// appendHead lays down all that stands ahead of the body.
func appendHead(b []byte, c api.Config, f api.Frame) []byte {
	b = append(b, mark...)
	b = append(b, byte(f.Kind), byte(c.Nodes), byte(f.From))
	if f.Kind == api.Data {
		b = append(b, byte(f.Origin))
		b = appendNumber(b, f.Seq, 2)
		b = appendNumber(b, f.Low, 2)
	}
	for _, v := range f.Vector {
		b = appendNumber(b, v, 2)
	}
	if f.Kind == api.Data {
		b = append(b, byte(len(f.Body)))
	}
	return b
}
