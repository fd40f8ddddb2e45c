package hearsay_test

import (
	"reflect"
	"slices"
	"testing"

	"hearsay/api"
)

// netModel is a net made of the document's words alone; the program's nets are held against it.
type netModel struct {
	c       api.Config
	nodes   []*model
	refused []int
	way     []api.Packet
}

func newNetModel(c api.Config) *netModel {
	m := &netModel{c: c, refused: make([]int, c.Nodes)}
	for p := range c.Nodes {
		m.nodes = append(m.nodes, newModel(c, p))
	}
	return m
}

func (m *netModel) has(p int) bool { return slices.Contains(others(m.c.Nodes, -1), p) }

func (m *netModel) say(p int, body string) (int, api.Errno) {
	if !m.has(p) {
		return 0, api.ErrArg
	}
	seq, packets, e := m.nodes[p].say(body)
	m.way = append(m.way, packets...)
	return seq, e
}

func (m *netModel) tick(p int) api.Errno {
	if !m.has(p) {
		return api.ErrArg
	}
	m.way = append(m.way, m.nodes[p].all().tick...)
	return api.OK
}

func (m *netModel) send(to int, s string) api.Errno {
	if !m.has(to) {
		return api.ErrArg
	}
	if len(s) > 100 {
		return api.ErrLong
	}
	m.way = append(m.way, api.Packet{To: to, Text: s})
	return api.OK
}

// take gives the packet of a number, and lets it go.
func (m *netModel) take(k int) (api.Packet, api.Errno) {
	if k < 0 || k >= len(m.way) {
		return api.Packet{}, api.ErrArg
	}
	x := m.way[k]
	m.way = append(append([]api.Packet{}, m.way[:k]...), m.way[k+1:]...)
	return x, api.OK
}

func (m *netModel) drop(k int) api.Errno {
	_, e := m.take(k)
	return e
}

func (m *netModel) deliver(k int) api.Errno {
	x, e := m.take(k)
	if e != api.OK {
		return e
	}
	packets, e := m.nodes[x.To].hear(x.Text)
	if e != api.OK {
		m.refused[x.To]++
	}
	m.way = append(m.way, packets...)
	return e
}

func (m *netModel) double(k int) api.Errno {
	if k < 0 || k >= len(m.way) {
		return api.ErrArg
	}
	m.way = append(m.way, m.way[k])
	return api.OK
}

func (m *netModel) all() sight {
	s := sight{refused: slices.Clone(m.refused), way: append([]api.Packet{}, m.way...)}
	for _, n := range m.nodes {
		a := n.all()
		s.heard, s.store = append(s.heard, a.heard), append(s.store, a.store)
	}
	return s
}

// netWalk is a net and its model on the same way.
type netWalk struct {
	field
	d   *dice
	m   *netModel
	met map[string]int
}

// number gives one from 0 to less than n, or seldom one close by.
func (d *dice) number(n int) int {
	if d.roll(12) == 0 {
		return d.roll(n+4) - 2
	}
	return d.roll(max(n, 1))
}

// text gives a text to send: a frame about which there is something to decide, a spoilt one, or any.
func (w *netWalk) text() string {
	p := w.d.roll(w.c.Nodes)
	s := encoded(w.c, w.d.near(w.c, w.m.nodes[p].clock()))
	switch w.d.roll(6) {
	case 0:
		return spoil(w.d, s)
	case 1:
		return w.d.text(w.d.roll(104))
	}
	return s
}

func (w *netWalk) same(call string, is, want api.Errno) {
	w.Helper()
	w.met[call+" "+string('0'+rune(is))]++
	if is != want {
		w.Fatalf("P14, P15: %s = %d, want %d", call, is, want)
	}
}

func (w *netWalk) step() {
	p, k := w.d.number(w.c.Nodes), w.d.number(len(w.m.way))
	if len(w.m.way) > 80 {
		w.same("Drop", w.net.Drop(k), w.m.drop(k))
	}
	switch w.d.roll(12) {
	case 0, 1:
		body := w.d.text(w.d.roll(w.c.Body + 1))
		seq, e := w.net.Say(p, body)
		want, g := w.m.say(p, body)
		w.same("Say", e, g)
		if seq != want {
			w.Fatalf("P14: Say(%d, ..) = %d, want %d", p, seq, want)
		}
	case 2:
		w.same("Tick", w.net.Tick(p), w.m.tick(p))
	case 3:
		w.same("Drop", w.net.Drop(k), w.m.drop(k))
	case 4:
		w.same("Copy", w.net.Copy(k), w.m.double(k))
	case 5, 6:
		s := w.text()
		w.same("Send", w.net.Send(p, s), w.m.send(p, s))
	default:
		w.same("Deliver", w.net.Deliver(k), w.m.deliver(k))
	}
	if is, want := w.all(), w.m.all(); !reflect.DeepEqual(is, want) {
		w.Fatalf("P13 to P16: a net of %+v is %x, want %x", w.c, is, want)
	}
}

// P13 to P16: long walks of nets, with all calls, numbers that are none, and frames that no node has sent.
func TestNetsAreAsTheModel(t *testing.T) {
	var d dice = 31
	met := map[string]int{}
	for i := range 150 {
		c := api.Config{Nodes: 2 + d.roll(4), Window: 1 + d.roll(4), Body: d.roll(4), Last: 1 + d.roll(30)}
		if i%10 == 0 {
			c.Nodes, c.Window = api.MaxNodes, api.MaxWindow
		}
		w := &netWalk{newField(t, c), &d, newNetModel(c), met}
		for range 200 {
			w.step()
		}
	}
	for _, name := range []string{
		"Say 0", "Say 1", "Say 3", "Say 4", "Tick 0", "Tick 1", "Drop 0", "Drop 1", "Copy 0", "Copy 1", "Send 0", "Send 1", "Send 2",
		"Deliver 0", "Deliver 1", "Deliver 5", "Deliver 6", "Deliver 7", "Deliver 8",
	} {
		if met[name] < 15 {
			t.Errorf("the walks show %q just %d times", name, met[name])
		}
	}
}
