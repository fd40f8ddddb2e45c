package hearsay_test

import (
	"math"
	"slices"
	"strings"
	"testing"

	"hearsay/api"
	"hearsay/hearsay"
)

func TestEncodeExamples(t *testing.T) {
	passed := hiFrame()
	passed.From = 1
	for _, x := range []struct {
		f    api.Frame
		want string
	}{
		{hiFrame(), unhex(hiBytes)},
		{passed, unhex("6873 01 03 01 00 0001 0000 000000000000 02 6869 8d3503f7")},
		{stateFrame(), unhex(stateBytes)},
		{api.Frame{Kind: api.Data, From: 1, Origin: 1, Seq: 1, Vector: []int{1, 0, 0}, Body: "re"}, unhex("6873 01 03 01 01 0001 0000 000100000000 02 7265 650b54ef")},
	} {
		if s, e := hearsay.Encode(three, x.f); s != x.want || e != api.OK {
			t.Errorf("P5: Encode(%+v) = %x, %d, want %x", x.f, s, e, x.want)
		}
	}
}

// P5: frames at the ends of all bounds, and the order of the bytes of great numbers.
func TestEncodeEdges(t *testing.T) {
	body := strings.Repeat("\xfe", 40)
	for _, x := range []struct {
		c    api.Config
		f    api.Frame
		want string
	}{
		{great, api.Frame{Kind: api.Data, From: 6, Origin: 7, Seq: 65535, Low: 65527, Vector: []int{65535, 0, 1, 256, 258, 0, 0, 65534}, Body: body},
			"hs\x01\x08\x06\x07\xff\xff\xff\xf7\xff\xff\x00\x00\x00\x01\x01\x00\x01\x02\x00\x00\x00\x00\xff\xfe\x28" + body},
		{great, api.Frame{Kind: api.State, From: 7, Vector: []int{65535, 0, 1, 256, 258, 0, 0, 65534}},
			"hs\x02\x08\x07\xff\xff\x00\x00\x00\x01\x01\x00\x01\x02\x00\x00\x00\x00\xff\xfe"},
		{small, api.Frame{Kind: api.Data, From: 1, Origin: 1, Seq: 1, Vector: []int{1, 0}}, "hs\x01\x02\x01\x01\x00\x01\x00\x00\x00\x01\x00\x00\x00"},
		{small, api.Frame{Kind: api.State, Vector: []int{0, 1}}, "hs\x02\x02\x00\x00\x00\x00\x01"},
		{three, api.Frame{Kind: api.Data, Seq: 4, Low: 2, Vector: []int{3, 0, 0}}, "hs\x01\x03\x00\x00\x00\x04\x00\x02\x00\x03\x00\x00\x00\x00\x00"},
		{three, api.Frame{Kind: api.Data, Seq: 4, Low: 3, Vector: []int{3, 9, 9}, Body: "fives"}, "hs\x01\x03\x00\x00\x00\x04\x00\x03\x00\x03\x00\x09\x00\x09\x05fives"},
	} {
		if s, e := hearsay.Encode(x.c, x.f); s != sealed(x.want) || e != api.OK {
			t.Errorf("P5: Encode(%+v, %+v) = %x, %d, want %x", x.c, x.f, s, e, sealed(x.want))
		}
	}
}

// wrongFrames: frames of the group of three, each with one thing that is wrong.
func wrongFrames() []api.Frame {
	var out []api.Frame
	spoil := func(base func() api.Frame, turns ...func(f *api.Frame)) {
		for _, turn := range turns {
			f := base()
			turn(&f)
			out = append(out, f)
		}
	}
	data := func() api.Frame { return api.Frame{Kind: api.Data, Seq: 4, Low: 2, Vector: []int{3, 0, 0}, Body: "hi"} }
	for _, base := range []func() api.Frame{data, stateFrame} {
		for _, v := range []int{math.MinInt, -1, math.MaxInt, 3, 256 + 1} {
			spoil(base, func(f *api.Frame) { f.Kind = v }, func(f *api.Frame) { f.From = v })
		}
		for _, v := range []int{math.MinInt, -1, 10, 65536, math.MaxInt} {
			spoil(base, func(f *api.Frame) { f.Vector[2] = v })
		}
		spoil(base, func(f *api.Frame) { f.Kind = 0 }, func(f *api.Frame) { f.Vector = nil }, func(f *api.Frame) { f.Vector = f.Vector[:2] }, func(f *api.Frame) { f.Vector = append(f.Vector, 0) }, func(f *api.Frame) { f.Vector = f.Vector[:0] })
	}
	for _, v := range []int{math.MinInt, -1, 3, 256, math.MaxInt} {
		spoil(data, func(f *api.Frame) { f.Origin = v })
	}
	for _, v := range []int{math.MinInt, -1, 0, 3, 5, 10, 65536 + 4, math.MaxInt} {
		spoil(data, func(f *api.Frame) { f.Seq = v })
	}
	for _, v := range []int{math.MinInt, -1, 0, 1, 4, 5, 65536 + 2, math.MaxInt} {
		spoil(data, func(f *api.Frame) { f.Low = v })
	}
	spoil(data,
		func(f *api.Frame) { f.Seq, f.Low, f.Vector[0] = 10, 9, 9 }, func(f *api.Frame) { f.Seq, f.Low, f.Vector[0] = 0, -1, -1 }, func(f *api.Frame) { f.Seq, f.Low, f.Vector[0] = 1, -1, 0 },
		func(f *api.Frame) { f.Vector[0] = 4 }, func(f *api.Frame) { f.Origin = 1 }, func(f *api.Frame) { f.Body = "sixsix" }, func(f *api.Frame) { f.Body = strings.Repeat("x", 300) })
	for _, v := range []int{math.MinInt, -1, 1, math.MaxInt} {
		spoil(stateFrame, func(f *api.Frame) { f.Origin = v }, func(f *api.Frame) { f.Seq = v }, func(f *api.Frame) { f.Low = v })
	}
	spoil(stateFrame, func(f *api.Frame) { f.Body = "x" }, func(f *api.Frame) { f.Body = "\x00" })
	return append(out, api.Frame{}, hiWithSeqTwo())
}

func hiWithSeqTwo() api.Frame {
	f := hiFrame()
	f.Seq = 2
	return f
}

func TestEncodeRefuses(t *testing.T) {
	for _, f := range wrongFrames() {
		if s, e := hearsay.Encode(three, f); s != "" || e != api.ErrFrame {
			t.Errorf("P5: Encode(%+v) = %x, %d, want ErrFrame", f, s, e)
		}
		for _, c := range noGroups {
			if s, e := hearsay.Encode(c, f); s != "" || e != api.ErrArg {
				t.Errorf("P1, P5: Encode(%+v, %+v) = %x, %d, want ErrArg", c, f, s, e)
			}
		}
	}
}

// P2: neither a vector nor its spare room is written into, by a frame that is right or wrong.
func TestEncodeLeavesVector(t *testing.T) {
	for _, f := range append(wrongFrames(), hiFrame(), stateFrame()) {
		whole := append(slices.Clone(f.Vector), 71, 72, 73)
		before := slices.Clone(whole)
		f.Vector = whole[:len(f.Vector)]
		hearsay.Encode(three, f)
		if !slices.Equal(whole, before) {
			t.Errorf("P2: Encode(%+v) made %v of %v", f, whole, before)
		}
	}
}

// P2: nothing of a vector is kept from one call to the next.
func TestEncodeKeepsNothing(t *testing.T) {
	f := stateFrame()
	first, _ := hearsay.Encode(three, f)
	f.Vector[0] = 9
	second, _ := hearsay.Encode(three, f)
	if first != unhex(stateBytes) || second != sealed("hs\x02\x03\x02\x00\x09\x00\x01\x00\x00") {
		t.Errorf("P2: Encode before and behind a change of the vector: %x, %x", first, second)
	}
}
