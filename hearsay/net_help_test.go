package hearsay_test

import (
	"reflect"
	"slices"
	"testing"

	"hearsay/api"
	"hearsay/hearsay"
)

// field is a net of a test, with the calls held against what is wanted.
type field struct {
	*testing.T
	c   api.Config
	net *hearsay.Net
}

func newField(t *testing.T, c api.Config) field {
	t.Helper()
	x, e := hearsay.NewNet(c)
	if x == nil || e != api.OK {
		t.Fatalf("P13: NewNet(%+v) = %v, %d, want a net", c, x, e)
	}
	return field{t, c, x}
}

func (f field) says(p int, body string, seq int) {
	f.Helper()
	if s, e := f.net.Say(p, body); s != seq || e != api.OK {
		f.Errorf("P14: Say(%d, %q) = %d, %d, want %d, OK", p, body, s, e, seq)
	}
}

func (f field) cannotSay(p int, body string, want api.Errno) {
	f.Helper()
	was := f.all()
	if s, e := f.net.Say(p, body); s != 0 || e != want {
		f.Errorf("P1, P14: Say(%d, %.40q) = %d, %d, want 0, %d", p, body, s, e, want)
	}
	f.is(was)
}

func (f field) ticks(p int) {
	f.Helper()
	if e := f.net.Tick(p); e != api.OK {
		f.Errorf("P14: Tick(%d) = %d, want OK", p, e)
	}
}

func (f field) sends(to int, s string) {
	f.Helper()
	if e := f.net.Send(to, s); e != api.OK {
		f.Errorf("P15: Send(%d, %x) = %d, want OK", to, s, e)
	}
}

// delivers lets a packet come; refused or not, it goes and those behind it move up.
func (f field) delivers(k int, want api.Errno) {
	f.Helper()
	was := f.all()
	if e := f.net.Deliver(k); e != want {
		f.Errorf("P15: Deliver(%d) = %d, want %d", k, e, want)
	}
	way := slices.Delete(slices.Clone(was.way), k, k+1)
	if is := f.all().way; len(is) < len(way) || !slices.Equal(is[:len(way)], way) {
		f.Errorf("P13, P15: on their way behind Deliver(%d): %x, want %x ahead of all others", k, is, way)
	}
	if want != api.OK {
		was.refused[was.way[k].To]++
		was.way = way
		f.is(was)
	}
}

func (f field) drops(k int) {
	f.Helper()
	was := f.all()
	if e := f.net.Drop(k); e != api.OK {
		f.Errorf("P15: Drop(%d) = %d, want OK", k, e)
	}
	was.way = slices.Delete(was.way, k, k+1)
	f.is(was)
}

func (f field) copies(k int) {
	f.Helper()
	was := f.all()
	if e := f.net.Copy(k); e != api.OK {
		f.Errorf("P15: Copy(%d) = %d, want OK", k, e)
	}
	was.way = append(was.way, was.way[k])
	f.is(was)
}

func (f field) left(want int) {
	f.Helper()
	if n := f.net.Left(); n != want {
		f.Errorf("P15: Left() = %d, want %d", n, want)
	}
}

// onWay tells the packets from a number on that are wanted to be on their way.
func (f field) onWay(from int, want ...api.Packet) {
	f.Helper()
	if way := f.all().way; len(way) < from || !slices.Equal(way[from:], want) {
		f.Errorf("P14, P15: on their way: %x, want from %d on %x", way, from, want)
	}
}

func (f field) refused(p, want int) {
	f.Helper()
	if n, e := f.net.Refused(p); n != want || e != api.OK {
		f.Errorf("P16: Refused(%d) = %d, %d, want %d, OK", p, n, e, want)
	}
}

func (f field) hasHeard(p int, words ...api.Word) {
	f.Helper()
	if l, e := f.net.Heard(p); !slices.Equal(l, words) || e != api.OK {
		f.Errorf("P16: Heard(%d) = %v, %d, want %v, OK", p, l, e, words)
	}
}

func (f field) keeps(p int, words ...api.Word) {
	f.Helper()
	if l, e := f.net.Store(p); !slices.Equal(l, words) || e != api.OK {
		f.Errorf("P16: Store(%d) = %v, %d, want %v, OK", p, l, e, words)
	}
}

// sight is all that the calls tell of a net.
type sight struct {
	heard, store [][]api.Word
	refused      []int
	way          []api.Packet
}

func (f field) all() sight {
	f.Helper()
	s := sight{way: make([]api.Packet, 0, f.net.Left())}
	for p := range f.c.Nodes {
		heard, e := f.net.Heard(p)
		store, g := f.net.Store(p)
		refused, h := f.net.Refused(p)
		if e != api.OK || g != api.OK || h != api.OK {
			f.Fatalf("P16: Heard, Store and Refused of %d: %d, %d, %d, want OK", p, e, g, h)
		}
		s.heard, s.store, s.refused = append(s.heard, heard), append(s.store, store), append(s.refused, refused)
	}
	for k := range f.net.Left() {
		x, e := f.net.Peek(k)
		if e != api.OK {
			f.Fatalf("P15: Peek(%d) of %d = %d, want OK", k, f.net.Left(), e)
		}
		s.way = append(s.way, x)
	}
	return s
}

func (f field) is(want sight) {
	f.Helper()
	if is := f.all(); !reflect.DeepEqual(is, want) {
		f.Errorf("P1: the net is %x, want %x", is, want)
	}
}
