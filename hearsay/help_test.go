package hearsay_test

import (
	"encoding/binary"
	"encoding/hex"
	"hash/crc32"
	"math"
	"strings"

	"hearsay/api"
)

var (
	three = api.Config{Nodes: 3, Window: 2, Body: 5, Last: 9} // the document's group G
	small = api.Config{Nodes: 2, Window: 1, Body: 0, Last: 1}
	great = api.Config{Nodes: 8, Window: 8, Body: 40, Last: 65535}
)

var noGroups = []api.Config{
	{}, {Nodes: 1, Window: 2, Body: 5, Last: 9}, {Nodes: 3, Window: 9, Body: 5, Last: 9}, {Nodes: 3, Window: 2, Body: 41, Last: 9}, {Nodes: 3, Window: 2, Body: 5},
	{Nodes: math.MaxInt, Window: math.MaxInt, Body: math.MaxInt, Last: math.MaxInt}, {Nodes: math.MinInt, Window: math.MinInt, Body: math.MinInt, Last: math.MinInt},
}

const (
	hiBytes    = "6873 01 03 00 00 0001 0000 000000000000 02 6869 34ced81f"
	stateBytes = "6873 02 03 02 000100010000 97aa85c1"
)

func hiFrame() api.Frame {
	return api.Frame{Kind: api.Data, Seq: 1, Vector: []int{0, 0, 0}, Body: "hi"}
}

func stateFrame() api.Frame {
	return api.Frame{Kind: api.State, From: 2, Vector: []int{1, 1, 0}}
}

func unhex(s string) string {
	b, err := hex.DecodeString(strings.ReplaceAll(s, " ", ""))
	if err != nil {
		panic(err)
	}
	return string(b)
}

// sealed lays the right sum behind s, made by other code than the program's.
func sealed(s string) string {
	return s + string(binary.BigEndian.AppendUint32(nil, crc32.ChecksumIEEE([]byte(s))))
}

func isZero(f api.Frame) bool {
	return f.Kind == 0 && f.From == 0 && f.Origin == 0 && f.Seq == 0 && f.Low == 0 && len(f.Vector) == 0 && f.Body == ""
}

// dice gives the same numbers in every run.
type dice uint64

func (d *dice) roll(n int) int {
	*d = *d*6364136223846793005 + 1442695040888963407
	return int(uint64(*d)>>33) % n
}

func (d *dice) text(n int) string {
	b := make([]byte, n)
	for i := range b {
		b[i] = byte(d.roll(256))
	}
	return string(b)
}

// frame gives a frame of the group.
func (d *dice) frame(c api.Config) api.Frame {
	f := api.Frame{Kind: api.State, From: d.roll(c.Nodes), Vector: make([]int, c.Nodes)}
	for i := range f.Vector {
		f.Vector[i] = d.roll(c.Last + 1)
	}
	if d.roll(3) == 0 {
		return f
	}
	f.Kind = api.Data
	f.Origin = d.roll(c.Nodes)
	f.Seq = 1 + d.roll(c.Last)
	f.Low = f.Seq - 1 - d.roll(min(f.Seq, c.Window))
	f.Vector[f.Origin] = f.Seq - 1
	f.Body = d.text(d.roll(c.Body + 1))
	return f
}

func (d *dice) group() api.Config {
	switch d.roll(4) {
	case 0:
		return three
	case 1:
		return small
	case 2:
		return great
	}
	return api.Config{Nodes: 2 + d.roll(7), Window: 1 + d.roll(8), Body: d.roll(41), Last: 1 + d.roll(300)}
}
