package wire

import (
	"strings"

	"hearsay/api"
	"hearsay/group"
)

// Decode tells the frame that some bytes are, or where they are wrong (P6).
func Decode(c api.Config, s string) (api.Frame, error) {
	if err := group.Check(c); err != nil {
		return api.Frame{}, err
	}
	if err := checkSeal(c, s); err != nil {
		return api.Frame{}, err
	}
	f, err := read(c, s)
	if err != nil {
		return api.Frame{}, err
	}
	return f, nil
}

// checkSeal asks what holds for every text that may be read further.
func checkSeal(c api.Config, s string) error {
	if len(s) < leastState(c) {
		return refuseAt(len(s), "too short for a frame")
	}
	if !strings.HasPrefix(s, mark) {
		return refuseAt(0, "it does not begin as a frame")
	}
	end := len(s) - sumSize
	if readNumber(s, end, sumSize) != Sum(s[:end]) {
		return refuseAt(end, "the check sum is not right")
	}
	return nil
}

func read(c api.Config, s string) (api.Frame, error) {
	f := api.Frame{Kind: int(s[kindAt]), From: int(s[fromAt])}
	if err := checkKind(f); err != nil {
		return f, err
	}
	if int(s[nodesAt]) != c.Nodes {
		return f, refuseAt(nodesAt, "it is of a group with another number of nodes")
	}
	if err := checkFrom(c, f); err != nil {
		return f, err
	}
	if f.Kind == api.State {
		return readState(c, s, f)
	}
	return readData(c, s, f)
}

func readState(c api.Config, s string, f api.Frame) (api.Frame, error) {
	if len(s) != leastState(c) {
		return f, refuseAt(len(s), "too long for a State frame")
	}
	f.Vector = readVector(c, s, stateVectorAt)
	return f, checkState(c, f)
}

func readData(c api.Config, s string, f api.Frame) (api.Frame, error) {
	if len(s) < leastData(c) {
		return f, refuseAt(len(s), "too short for a Data frame")
	}
	size := sizeAt(c)
	f.Origin = int(s[originAt])
	f.Seq = readNumber(s, seqAt, 2)
	f.Low = readNumber(s, lowAt, 2)
	f.Vector = readVector(c, s, dataVectorAt)
	f.Body = s[size+1 : len(s)-sumSize]
	if err := checkData(c, f); err != nil {
		return f, err
	}
	if int(s[size]) != len(f.Body) {
		return f, refuseAt(size, "the body has another length than is told")
	}
	// A piece of s would keep the whole of s alive.
	f.Body = strings.Clone(f.Body)
	return f, nil
}

func readVector(c api.Config, s string, at int) []int {
	v := make([]int, c.Nodes)
	for i := range v {
		v[i] = readNumber(s, at+2*i, 2)
	}
	return v
}
