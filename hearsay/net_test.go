package hearsay_test

import (
	"math"
	"strings"
	"testing"

	"hearsay/api"
	"hearsay/hearsay"
)

// P13: a new net is all nodes, new ones, and no packet.
func TestNewNet(t *testing.T) {
	for _, c := range []api.Config{small, three, great} {
		f := newField(t, c)
		f.left(0)
		for p := range c.Nodes {
			f.hasHeard(p)
			f.keeps(p)
			f.refused(p, 0)
			f.ticks(p)
			f.onWay(p*(c.Nodes-1), newBench(t, c, p).node.Tick()...)
		}
		f.left(c.Nodes * (c.Nodes - 1))
	}
	for _, c := range noGroups {
		if x, e := hearsay.NewNet(c); x != nil || e != api.ErrArg {
			t.Errorf("P13: NewNet(%+v) = %v, %d, want nil, ErrArg", c, x, e)
		}
	}
}

// The document's last example.
func TestNetExample(t *testing.T) {
	f := newField(t, three)
	hi := word(0, 1, "hi")
	f.says(0, "hi", 1)
	f.left(2)
	f.delivers(0, api.OK)
	f.left(2)
	f.onWay(0, api.Packet{To: 2, Text: unhex(hiBytes)}, api.Packet{To: 2, Text: unhex("6873 01 03 01 00 0001 0000 000000000000 02 6869 8d3503f7")})
	f.copies(0)
	f.left(3)
	f.drops(0)
	f.left(2)
	f.delivers(1, api.OK)
	f.hasHeard(2, hi)
	f.left(2)
	f.delivers(1, api.ErrOld)
	f.refused(1, 1)
	f.delivers(0, api.ErrOld)
	f.refused(2, 1)
	f.refused(0, 0)
	f.cannotTouch(0)
	for p := range 3 {
		f.hasHeard(p, hi)
		f.keeps(p, hi)
	}
}

// cannotTouch: a number of no packet is ErrArg in all calls, and nothing changes.
func (f field) cannotTouch(k int) {
	f.Helper()
	was := f.all()
	for name, call := range map[string]func(int) api.Errno{"Deliver": f.net.Deliver, "Drop": f.net.Drop, "Copy": f.net.Copy} {
		if e := call(k); e != api.ErrArg {
			f.Errorf("P15: %s(%d) of %d = %d, want ErrArg", name, k, len(was.way), e)
		}
	}
	if x, e := f.net.Peek(k); x != (api.Packet{}) || e != api.ErrArg {
		f.Errorf("P1, P15: Peek(%d) of %d = %x, %d, want none, ErrArg", k, len(was.way), x, e)
	}
	f.is(was)
}

// P15: numbers of no packet, in an empty net too.
func TestNoPacket(t *testing.T) {
	for _, c := range []api.Config{small, three, great} {
		f := newField(t, c)
		for range 3 {
			n := f.net.Left()
			for _, k := range []int{math.MinInt, -1 << 32, -n - 1, -n, -1, n, n + 1, 1 << 32, math.MaxInt} {
				if k < 0 || k >= n {
					f.cannotTouch(k)
				}
			}
			f.ticks(0)
		}
	}
}

// P14 to P16: numbers of no node; ErrArg comes ahead of the other errors.
func TestNoNetNode(t *testing.T) {
	long := strings.Repeat("x", 1000)
	for _, c := range []api.Config{small, three, great} {
		f := newField(t, c)
		f.says(0, "", 1)
		f.sends(1, "?")
		f.delivers(f.net.Left()-1, api.ErrFrame)
		for _, p := range []int{math.MinInt, -1 << 32, -c.Nodes, -1, c.Nodes, c.Nodes + 1, 256, 1 << 32, math.MaxInt} {
			f.cannotSay(p, "", api.ErrArg)
			f.cannotSay(p, long, api.ErrArg)
			f.isNoNode(p, "", long)
		}
	}
}

func (f field) isNoNode(p int, texts ...string) {
	f.Helper()
	was := f.all()
	if e := f.net.Tick(p); e != api.ErrArg {
		f.Errorf("P14: Tick(%d) = %d, want ErrArg", p, e)
	}
	for _, s := range texts {
		if e := f.net.Send(p, s); e != api.ErrArg {
			f.Errorf("P15: Send(%d, %.20q) = %d, want ErrArg", p, s, e)
		}
	}
	if l, e := f.net.Heard(p); len(l) != 0 || e != api.ErrArg {
		f.Errorf("P1, P16: Heard(%d) = %v, %d, want none, ErrArg", p, l, e)
	}
	if l, e := f.net.Store(p); len(l) != 0 || e != api.ErrArg {
		f.Errorf("P1, P16: Store(%d) = %v, %d, want none, ErrArg", p, l, e)
	}
	if n, e := f.net.Refused(p); n != 0 || e != api.ErrArg {
		f.Errorf("P1, P16: Refused(%d) = %d, %d, want 0, ErrArg", p, n, e)
	}
	f.is(was)
}

// P14: what a node says lies behind all others, one packet to each other node in their order.
func TestNetSay(t *testing.T) {
	f := newField(t, three)
	b := newBench(t, three, 1)
	f.sends(2, "ahead")
	for i, body := range []string{"12345", ""} {
		_, packets, _ := b.node.Say(body)
		f.says(1, body, i+1)
		f.onWay(1+2*i, packets...)
	}
	f.hasHeard(1, word(1, 1, "12345"), word(1, 2, ""))
	f.keeps(1, word(1, 1, "12345"), word(1, 2, ""))
	for _, p := range []int{0, 2} {
		f.hasHeard(p)
		f.keeps(p)
	}
}

// P14: what the node's Say refuses, with its errors, changes nothing, and is not counted as refused.
func TestNetSayErrors(t *testing.T) {
	f := newField(t, three)
	f.cannotSay(0, "123456", api.ErrLong)
	f.cannotSay(0, strings.Repeat("x", 1<<16), api.ErrLong)
	f.says(0, "a", 1)
	f.says(0, "b", 2)
	f.cannotSay(0, "c", api.ErrBusy)
	f.cannotSay(0, "123456", api.ErrLong)
	f.says(1, "d", 1)
	f = newField(t, small)
	f.says(1, "", 1)
	f.cannotSay(1, "", api.ErrSpent)
	f.cannotSay(1, "x", api.ErrLong)
	f.refused(1, 0)
}

// P14: a tick's packets are the node's, behind all others; nothing else changes.
func TestNetTick(t *testing.T) {
	f := newField(t, three)
	b := newBench(t, three, 2)
	_, said, _ := b.node.Say("w")
	f.says(2, "w", 1)
	was := f.all()
	tick := b.node.Tick()
	f.ticks(2)
	f.ticks(2)
	was.way = append(append(was.way, tick...), tick...)
	f.is(was)
	if len(said) != 2 || len(tick) != 4 {
		t.Errorf("P8, P11: %d packets of a word, %d of a tick, want 2 and 4", len(said), len(tick))
	}
}

// P15: what a node passes on lies behind all others, as its Hear tells.
func TestDeliver(t *testing.T) {
	c := api.Config{Nodes: 4, Window: 2, Body: 5, Last: 9}
	f := newField(t, c)
	b := newBench(t, c, 2)
	f.says(0, "a", 1)
	f.sends(3, "behind")
	x, _ := f.net.Peek(1)
	packets, _ := b.node.Hear(x.Text)
	f.delivers(1, api.OK)
	f.onWay(3, packets...)
	f.left(5)
	f.hasHeard(2, word(0, 1, "a"))
	for _, p := range []int{1, 3} {
		f.hasHeard(p)
	}
	f.delivers(2, api.ErrFrame)
	f.refused(3, 1)
}

// P15, P16: a packet that is refused goes, by whatever error, and is counted at its node alone.
func TestDeliverRefused(t *testing.T) {
	f := newField(t, three)
	b := newBench(t, three, 1)
	f.sends(1, b.data(0, 0, 1, 0, "a", 0, 0, 0))
	f.delivers(0, api.OK)
	f.refused(1, 0)
	for i, s := range []struct {
		text string
		want api.Errno
	}{
		{"", api.ErrFrame}, {b.data(1, 0, 2, 1, "b", 1, 0, 0), api.ErrSelf}, {b.data(0, 1, 1, 0, "c", 0, 0, 0), api.ErrSelf}, {b.state(1, 0, 0, 0), api.ErrSelf},
		{b.data(2, 0, 1, 0, "a", 0, 0, 0), api.ErrOld}, {b.data(0, 0, 4, 2, "d", 3, 0, 0), api.ErrFar}, {strings.Repeat("\xff", 100), api.ErrFrame},
	} {
		f.sends(1, s.text)
		f.delivers(f.net.Left()-1, s.want)
		f.refused(1, i+1)
		f.refused(0, 0)
		f.refused(2, 0)
	}
	f.sends(2, b.state(1, 0, 0, 0))
	f.delivers(f.net.Left()-1, api.OK)
	f.refused(2, 0)
}

// P13, P15: packets go from the front, the middle and the end, and those behind them move up.
func TestPacketsMoveUp(t *testing.T) {
	f := newField(t, three)
	for _, s := range []string{"0", "1", "2", "3", "4", "5"} {
		f.sends(0, s)
	}
	f.drops(2)
	f.drops(0)
	f.copies(1)
	f.copies(4)
	f.onWay(0, to("1", 0)[0], to("3", 0)[0], to("4", 0)[0], to("5", 0)[0], to("3", 0)[0], to("3", 0)[0])
	f.drops(5)
	f.delivers(0, api.ErrFrame)
	f.delivers(2, api.ErrFrame)
	f.onWay(0, to("3", 0)[0], to("4", 0)[0], to("3", 0)[0])
	f.refused(0, 2)
}

// P15: a copy comes as the packet itself would, behind it too.
func TestCopyIsTheSamePacket(t *testing.T) {
	f := newField(t, three)
	f.says(0, "a", 1)
	f.copies(1)
	f.drops(1)
	f.delivers(1, api.OK)
	f.hasHeard(2, word(0, 1, "a"))
	f.hasHeard(1)
}

// P15: any text of up to MaxFrame bytes may be sent to any node.
func TestSend(t *testing.T) {
	for _, c := range []api.Config{small, three, great} {
		f := newField(t, c)
		for p := range c.Nodes {
			for _, n := range []int{0, 1, 99, 100} {
				was := f.all()
				s := strings.Repeat("\x00", n)
				f.sends(p, s)
				was.way = append(was.way, api.Packet{To: p, Text: s})
				f.is(was)
			}
			for _, n := range []int{101, 102, 256, 1 << 20} {
				was := f.all()
				if e := f.net.Send(p, strings.Repeat("x", n)); e != api.ErrLong {
					t.Errorf("P15: Send(%d, ..) of %d bytes = %d, want ErrLong", p, n, e)
				}
				f.is(was)
			}
		}
	}
}

// P16: a net tells of each node what it heard and keeps, as the node itself would.
func TestNetHeardAndStore(t *testing.T) {
	f := newField(t, three)
	a, b := word(0, 1, "a"), word(1, 1, "b")
	f.says(0, "a", 1)
	f.delivers(0, api.OK) // at 1, which passes it on to 2
	f.says(1, "b", 1)
	f.onWay(2, to(newBench(t, three, 1).data(1, 1, 1, 0, "b", 1, 0, 0), 0, 2)...)
	f.delivers(3, api.OK) // b at 2, ahead of a
	f.hasHeard(2)
	f.keeps(2, b)
	f.delivers(0, api.OK)
	f.hasHeard(2, a, b)
	f.keeps(2, a, b)
	f.hasHeard(1, a, b)
	f.hasHeard(0, a)
	f.sends(2, newBench(t, three, 0).state(0, 1, 1, 0))
	f.sends(2, newBench(t, three, 0).state(1, 1, 0, 0))
	f.delivers(f.net.Left()-1, api.OK)
	f.delivers(f.net.Left()-1, api.OK)
	f.keeps(2, b)
	f.hasHeard(2, a, b)
}
