// Package wire: frames as bytes.
package wire

import "hearsay/api"

const mark = "hs" // how every frame begins

// Where the parts of a frame begin.
const (
	kindAt        = 2
	nodesAt       = 3
	fromAt        = 4
	stateVectorAt = 5
	originAt      = 5
	seqAt         = 6
	lowAt         = 8
	dataVectorAt  = 10
)

const (
	sumSize  = 4 // bytes of the check sum, which ends every frame
	dataMore = 6 // bytes of Origin, Seq, Low and the body's length, which only Data has
)

func leastState(c api.Config) int { return api.Least + 2*c.Nodes }

func leastData(c api.Config) int { return leastState(c) + dataMore }

func sizeAt(c api.Config) int { return dataVectorAt + 2*c.Nodes }

func vectorAt(kind int) int {
	if kind == api.Data {
		return dataVectorAt
	}
	return stateVectorAt
}

func appendNumber(b []byte, v, k int) []byte {
	for k > 0 {
		k--
		b = append(b, byte(v>>(8*k)))
	}
	return b
}

func readNumber(s string, at, k int) int {
	v := 0
	for i := range k {
		v = v<<8 | int(s[at+i])
	}
	return v
}
