package wire

import (
	"hearsay/api"
	"hearsay/fault"
	"hearsay/group"
)

// The rules of P5 tell a place as those of P6 do, so that Encode and Decode are held to the same ones.

func checkKind(f api.Frame) error {
	if f.Kind != api.Data && f.Kind != api.State {
		return refuseAt(kindAt, "the kind is neither Data nor State")
	}
	return nil
}

func checkFrom(c api.Config, f api.Frame) error {
	if !group.Has(c, f.From) {
		return refuseAt(fromAt, "From is no node")
	}
	return nil
}

func checkState(c api.Config, f api.Frame) error {
	if f.Origin != 0 || f.Seq != 0 || f.Low != 0 || f.Body != "" {
		return refuse("a State frame has a part of a Data frame")
	}
	return checkVector(c, f)
}

func checkData(c api.Config, f api.Frame) error {
	switch {
	case !group.Has(c, f.Origin):
		return refuseAt(originAt, "Origin is no node")
	case f.Seq < 1 || f.Seq > c.Last:
		return refuseAt(seqAt, "Seq is out of its bounds")
	case f.Low < 0 || f.Low >= f.Seq || f.Low < f.Seq-c.Window:
		return refuseAt(lowAt, "Low is out of its bounds")
	}
	if err := checkVector(c, f); err != nil {
		return err
	}
	if len(f.Body) > c.Body {
		return refuseAt(sizeAt(c), "the body is too long")
	}
	return nil
}

func checkVector(c api.Config, f api.Frame) error {
	if len(f.Vector) != c.Nodes {
		return refuse("the vector has not one number for each node")
	}
	for i, v := range f.Vector {
		at := vectorAt(f.Kind) + 2*i
		if v < 0 || v > c.Last {
			return refuseAt(at, "a number of the vector is out of its bounds")
		}
		if f.Kind == api.Data && i == f.Origin && v != f.Seq-1 {
			return refuseAt(at, "the vector's number for Origin is not Seq - 1")
		}
	}
	return nil
}

func refuse(what string) error { return fault.Why{What: what, Kind: fault.Frame} }

func refuseAt(place int, what string) error { return fault.At{Place: place, Cause: refuse(what)} }
