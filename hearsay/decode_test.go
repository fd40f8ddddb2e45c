package hearsay_test

import (
	"encoding/binary"
	"hash/crc32"
	"reflect"
	"slices"
	"strings"
	"testing"
	"unsafe"

	"hearsay/api"
	"hearsay/hearsay"
)

func TestDecodeExamples(t *testing.T) {
	for s, want := range map[string]api.Frame{hiBytes: hiFrame(), stateBytes: stateFrame()} {
		if f, at, e := hearsay.Decode(three, unhex(s)); !reflect.DeepEqual(f, want) || at != 0 || e != api.OK {
			t.Errorf("P6: Decode(%s) = %+v, %d, %d, want %+v", s, f, at, e, want)
		}
	}
	hi, state := unhex(hiBytes), unhex(stateBytes)
	for _, x := range []struct {
		s  string
		at int
	}{
		{hi[:14], 14}, {state[:14], 14}, {"x" + hi[1:], 0}, {"x" + state[1:], 0}, {hi[:22] + "x", 19}, {state[:14] + "x", 11}, {sealed(state[:11] + "x"), 16},
	} {
		if f, at, e := hearsay.Decode(three, x.s); !isZero(f) || at != x.at || e != api.ErrFrame {
			t.Errorf("P6: Decode(%x) = %+v, %d, %d, want ErrFrame, %d", x.s, f, at, e, x.at)
		}
	}
}

// P6: one fault at a time, at both sides of each bound.
func TestDecodePlaces(t *testing.T) {
	data := "hs\x01\x03\x01\x02\x00\x04\x00\x02\x00\x09\x00\x09\x00\x03\x02hi"
	state := "hs\x02\x03\x02\x00\x01\x00\x09\x00\x00"
	const right = -1
	for _, x := range []struct {
		s     string
		from  int
		bytes string
		at    int
	}{
		{data, 0, "h", right}, {data, 1, "S", 0}, {data, 0, "sh", 0},
		{data, 2, "\x00", 2}, {data, 2, "\x03", 2}, {data, 2, "\xff", 2}, {data, 2, "\x02", 23}, {state, 2, "\x01", 15},
		{data, 3, "\x02", 3}, {data, 3, "\x04", 3}, {state, 3, "\x00", 3}, {data, 4, "\x02", right}, {data, 4, "\x03", 4}, {state, 4, "\xff", 4},
		{data, 5, "\x03", 5}, {data, 5, "\xff", 5}, {data, 5, "\x00", 10}, {data, 6, "\x00\x00", 6}, {data, 6, "\x00\x0a", 6}, {data, 6, "\x01\x04", 6}, {data, 6, "\x00\x03", 14}, {data, 6, "\x00\x02", 8}, {data, 6, "\x00\x05", 8},
		{data, 8, "\x00\x01", 8}, {data, 8, "\x00\x00", 8}, {data, 8, "\x00\x03", right}, {data, 8, "\x00\x04", 8}, {data, 8, "\xff\xff", 8}, {data, 8, "\x01\x02", 8},
		{data, 10, "\x00\x0a", 10}, {data, 10, "\x01\x00", 10}, {data, 12, "\x00\x0a", 12}, {data, 12, "\xff\xff", 12}, {data, 14, "\x00\x02", 14}, {data, 14, "\x00\x04", 14}, {data, 14, "\xff\xff", 14},
		{data, 16, "\x00", 16}, {data, 16, "\x01", 16}, {data, 16, "\x03", 16}, {data, 16, "\x06", 16}, {data, 16, "\xff", 16}, {data, 16, "\x05fives", right}, {data, 16, "\x06sixsix", 16}, {data, 17, "hix", 16}, {data, 17, "\x00\xff", right},
		{state, 5, "\x00\x0a", 5}, {state, 7, "\x00\x0a", 7}, {state, 9, "\x00\x0a", 9}, {state, 9, "\x01\x00", 9}, {state, 9, "\x00\x09", right}, {state, 9, "\x00\x09\x00", 16}, {state, 9, "\xff\xff\x00\x00", 17},
	} {
		s := x.s[:x.from] + x.bytes
		s = sealed(s + x.s[min(len(s), len(x.s)):])
		f, at, e := hearsay.Decode(three, s)
		if x.at == right && (e != api.OK || at != 0) {
			t.Errorf("P6: Decode(%x) = %+v, %d, %d, want a frame", s, f, at, e)
		}
		if x.at != right && (!isZero(f) || at != x.at || e != api.ErrFrame) {
			t.Errorf("P6: Decode(%x) = %+v, %d, %d, want ErrFrame, %d", s, f, at, e, x.at)
		}
	}
}

// P6: a text that ends anywhere, with its right sum and without it.
func TestDecodeLengths(t *testing.T) {
	for c, f := range map[api.Config]api.Frame{
		three: hiFrame(), small: {Kind: api.Data, Seq: 1, Vector: []int{0, 0}}, great: {Kind: api.Data, Seq: 1, Vector: make([]int, 8), Body: strings.Repeat("b", 40)},
	} {
		whole, e := hearsay.Encode(c, f)
		if e != api.OK {
			t.Fatalf("P5: Encode(%+v, %+v) = %d", c, f, e)
		}
		for n := range len(whole) {
			if g, at, e := hearsay.Decode(c, whole[:n]); !isZero(g) || at != cutAt(c, n) || e != api.ErrFrame {
				t.Errorf("P6: Decode of %d of %d bytes = %+v, %d, %d, want ErrFrame, %d", n, len(whole), g, at, e, cutAt(c, n))
			}
			if n < len(whole)-4 {
				s := sealed(whole[:n])
				if g, at, e := hearsay.Decode(c, s); !isZero(g) || at != sealedCutAt(c, len(s)) || e != api.ErrFrame {
					t.Errorf("P6: Decode of %x = %+v, %d, %d, want ErrFrame, %d", s, g, at, e, sealedCutAt(c, len(s)))
				}
			}
		}
	}
}

func cutAt(c api.Config, n int) int {
	if n < 9+2*c.Nodes {
		return n
	}
	return n - 4
}

func sealedCutAt(c api.Config, n int) int {
	if n < 15+2*c.Nodes {
		return n
	}
	return 10 + 2*c.Nodes
}

func TestDecodeNoGroup(t *testing.T) {
	for _, c := range noGroups {
		for _, s := range []string{"", "x", unhex(hiBytes), unhex(stateBytes), unhex(hiBytes)[:14]} {
			if f, at, e := hearsay.Decode(c, s); !isZero(f) || at != 0 || e != api.ErrArg {
				t.Errorf("P1, P6: Decode(%+v, %x) = %+v, %d, %d, want ErrArg", c, s, f, at, e)
			}
		}
	}
}

// A rung is a fault that P6 names: whether a text has it, and its place.
type rung struct {
	name  string
	wrong func() bool
	place int
}

// ladder: the faults of P6 in their order. Each is asked only when none ahead of it is so.
func ladder(c api.Config, s string) []rung {
	n, size := c.Nodes, len(s)
	two := func(at int) int { return int(binary.BigEndian.Uint16([]byte(s[at : at+2]))) }
	isState := func() bool { return s[2] == 2 }
	out := []rung{
		{"short", func() bool { return size < 9+2*n }, size},
		{"mark", func() bool { return s[:2] != "hs" }, 0},
		{"sum", func() bool {
			return binary.BigEndian.Uint32([]byte(s[size-4:])) != crc32.ChecksumIEEE([]byte(s[:size-4]))
		}, size - 4},
		{"kind", func() bool { return s[2] != 1 && s[2] != 2 }, 2},
		{"nodes", func() bool { return int(s[3]) != n }, 3},
		{"from", func() bool { return int(s[4]) >= n }, 4},
		{"state length", func() bool { return isState() && size != 9+2*n }, size},
	}
	for i := range n {
		out = append(out, rung{"state vector", func() bool { return isState() && two(5+2*i) > c.Last }, 5 + 2*i})
	}
	out = append(out,
		rung{"data length", func() bool { return !isState() && size < 15+2*n }, size},
		rung{"origin", func() bool { return !isState() && int(s[5]) >= n }, 5},
		rung{"seq", func() bool { return !isState() && (two(6) == 0 || two(6) > c.Last) }, 6},
		rung{"low", func() bool { return !isState() && (two(8) >= two(6) || two(8) < two(6)-c.Window) }, 8})
	for i := range n {
		out = append(out,
			rung{"data vector", func() bool { return !isState() && two(10+2*i) > c.Last }, 10 + 2*i},
			rung{"own number", func() bool { return !isState() && i == int(s[5]) && two(10+2*i) != two(6)-1 }, 10 + 2*i})
	}
	return append(out, rung{"body", func() bool {
		return !isState() && (int(s[10+2*n]) > c.Body || size != 15+2*n+int(s[10+2*n]))
	}, 10 + 2*n})
}

// spoil changes up to three bytes, or the length, of a frame's bytes; the sum is mostly made right again.
func spoil(d *dice, s string) string {
	b := []byte(s[:len(s)-4])
	for range d.roll(4) {
		at := d.roll(len(b))
		switch d.roll(3) {
		case 0:
			b[at] = byte(d.roll(10))
		case 1:
			b[at] = byte(d.roll(256))
		default:
			b[at] += byte(d.roll(3)) - 1
		}
	}
	if d.roll(6) == 0 {
		b = append(b, d.text(d.roll(3))...)
	}
	if d.roll(6) == 0 {
		b = b[:d.roll(len(b)+1)]
	}
	if d.roll(8) == 0 {
		return string(b) + s[len(s)-4:]
	}
	return sealed(string(b))
}

// P6: many spoilt frames, with several faults too, held against the ladder; and what is a frame is what Encode makes the text of.
func TestDecodeSpoilt(t *testing.T) {
	var d dice = 6
	met := map[string]int{}
	for range 100000 {
		c := d.group()
		f := d.frame(c)
		whole, e := hearsay.Encode(c, f)
		if e != api.OK {
			t.Fatalf("P5: Encode(%+v, %+v) = %d, want OK", c, f, e)
		}
		if g, at, e := hearsay.Decode(c, whole); !reflect.DeepEqual(f, g) || at != 0 || e != api.OK {
			t.Fatalf("P6: Decode(%+v, %x) = %+v, %d, %d, want %+v", c, whole, g, at, e, f)
		}
		s := spoil(&d, whole)
		rungs := ladder(c, s)
		k := slices.IndexFunc(rungs, func(r rung) bool { return r.wrong() })
		g, at, e := hearsay.Decode(c, s)
		if k < 0 {
			met["right"]++
			if back, again := hearsay.Encode(c, g); at != 0 || e != api.OK || back != s || again != api.OK {
				t.Fatalf("P6: Decode(%+v, %x) = %+v, %d, %d, of which Encode makes %x, %d", c, s, g, at, e, back, again)
			}
			continue
		}
		met[rungs[k].name]++
		if !isZero(g) || at != rungs[k].place || e != api.ErrFrame {
			t.Fatalf("P6: Decode(%+v, %x) = %+v, %d, %d, want ErrFrame, %d (%s)", c, s, g, at, e, rungs[k].place, rungs[k].name)
		}
	}
	for _, name := range []string{"right", "short", "mark", "sum", "kind", "nodes", "from", "state length", "state vector", "data length", "origin", "seq", "low", "data vector", "own number", "body"} {
		if met[name] < 10 {
			t.Errorf("the spoilt frames show %q just %d times", name, met[name])
		}
	}
}

// P1: any text at all, the long ones too.
func TestDecodeAnyText(t *testing.T) {
	var d dice = 1
	texts := []string{"", "h", "hs", strings.Repeat("hs\x01\x03", 100000), sealed("hs\x01\x03\x00" + strings.Repeat("\x00", 100000)), sealed("hs\x02\x03\x00" + strings.Repeat("\x00", 100000))}
	for range 5000 {
		texts = append(texts, d.text(d.roll(80)), sealed("hs"+d.text(d.roll(80))), sealed("hs\x01\x03"+d.text(d.roll(40))))
	}
	for _, s := range texts {
		for _, c := range []api.Config{small, three, great} {
			if f, _, e := hearsay.Decode(c, s); e != api.OK && (e != api.ErrFrame || !isZero(f)) {
				t.Fatalf("P1: Decode(%+v, %.60x) = %+v, %d", c, s, f, e)
			}
		}
	}
}

// P2: vectors that come out share nothing, their spare room neither.
func TestDecodeGivesNewVectors(t *testing.T) {
	for _, s := range []string{unhex(hiBytes), unhex(stateBytes)} {
		f, _, _ := hearsay.Decode(three, s)
		g, _, _ := hearsay.Decode(three, s)
		want := slices.Clone(g.Vector)
		for i := range f.Vector {
			f.Vector[i] = 77
		}
		for i := range 8 {
			f.Vector = append(f.Vector, 80+i)
		}
		h, at, e := hearsay.Decode(three, s)
		if !slices.Equal(g.Vector, want) || !slices.Equal(h.Vector, want) || at != 0 || e != api.OK {
			t.Errorf("P2: vectors behind a change of another: %v, %v, want %v", g.Vector, h.Vector, want)
		}
	}
}

// P2: a body hangs on no memory of the text it was read from.
func TestDecodeKeepsNoText(t *testing.T) {
	b := []byte(unhex(hiBytes))
	f, _, e := hearsay.Decode(three, unsafe.String(&b[0], len(b)))
	clear(b)
	if f.Body != "hi" || e != api.OK {
		t.Errorf("P2: the body is %q once the text's memory is written into, %d", f.Body, e)
	}
}
