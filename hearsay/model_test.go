package hearsay_test

import (
	"reflect"
	"slices"
	"testing"

	"hearsay/api"
	"hearsay/hearsay"
)

// mark names a word: its origin and its number.
type mark [2]int

// model is a node made of the document's words alone, as plainly as can be; the program's nodes are held against it.
type model struct {
	c     api.Config
	self  int
	view  map[mark]int // of a node and an origin
	store map[mark]api.Frame
	heard []api.Word
}

func newModel(c api.Config, p int) *model {
	return &model{c: c, self: p, view: map[mark]int{}, store: map[mark]api.Frame{}}
}

func (m *model) clock() []int { return m.vector(m.self) }

func (m *model) vector(q int) []int {
	var out []int
	for o := range m.c.Nodes {
		out = append(out, m.view[mark{q, o}])
	}
	return out
}

func (m *model) low(o int) int {
	var numbers []int
	for q := range m.c.Nodes {
		numbers = append(numbers, m.view[mark{q, o}])
	}
	return slices.Min(numbers)
}

func (m *model) text(f api.Frame) string {
	f.From = m.self
	return encoded(m.c, f)
}

func (m *model) take(f api.Frame) {
	m.heard = append(m.heard, word(f.Origin, f.Seq, f.Body))
	m.view[mark{m.self, f.Origin}]++
}

func (m *model) forget() {
	for k := range m.store {
		if k[1] <= m.low(k[0]) {
			delete(m.store, k)
		}
	}
}

func (m *model) say(body string) (int, []api.Packet, api.Errno) {
	deps, low := m.clock(), m.low(m.self)
	said := deps[m.self]
	switch {
	case len(body) > m.c.Body:
		return 0, nil, api.ErrLong
	case said == m.c.Last:
		return 0, nil, api.ErrSpent
	case said == low+m.c.Window:
		return 0, nil, api.ErrBusy
	}
	f := api.Frame{Kind: api.Data, Origin: m.self, Seq: said + 1, Low: low, Vector: deps, Body: body}
	m.store[mark{m.self, f.Seq}] = f
	m.take(f)
	m.forget()
	return f.Seq, to(m.text(f), others(m.c.Nodes, m.self)...), api.OK
}

func (m *model) hear(s string) ([]api.Packet, api.Errno) {
	f, _, e := hearsay.Decode(m.c, s)
	if e != api.OK {
		return nil, e
	}
	if f.From == m.self || f.Kind == api.Data && f.Origin == m.self {
		return nil, api.ErrSelf
	}
	if f.Kind == api.State {
		for o, v := range f.Vector {
			m.view[mark{f.From, o}] = max(m.view[mark{f.From, o}], v)
		}
		m.forget()
		return nil, api.OK
	}
	_, kept := m.store[mark{f.Origin, f.Seq}]
	switch known := m.clock()[f.Origin]; {
	case kept || f.Seq <= known:
		return nil, api.ErrOld
	case f.Seq > known+m.c.Window:
		return nil, api.ErrFar
	}
	for _, q := range others(m.c.Nodes, m.self) {
		m.view[mark{q, f.Origin}] = max(m.view[mark{q, f.Origin}], f.Low)
	}
	m.store[mark{f.Origin, f.Seq}] = f
	packets := to(m.text(f), slices.DeleteFunc(others(m.c.Nodes, m.self), func(q int) bool { return q == f.From || q == f.Origin })...)
	for m.hearOne() {
	}
	m.forget()
	return packets, api.OK
}

func (m *model) hearOne() bool {
	clock := m.clock()
	for o := range m.c.Nodes {
		f, kept := m.store[mark{o, clock[o] + 1}]
		late := slices.ContainsFunc(others(m.c.Nodes, -1), func(q int) bool { return kept && f.Vector[q] > clock[q] })
		if kept && !late {
			m.take(f)
			return true
		}
	}
	return false
}

// kept tells the frames in the store, in the order of their marks.
func (m *model) kept() []api.Frame {
	var out []api.Frame
	for o := range m.c.Nodes {
		for seq := range m.c.Last {
			if f, ok := m.store[mark{o, seq + 1}]; ok {
				out = append(out, f)
			}
		}
	}
	return out
}

func (m *model) all() everything {
	a := everything{heard: slices.Clone(m.heard), clock: m.clock()}
	for q := range m.c.Nodes {
		a.views = append(a.views, m.vector(q))
	}
	kept := m.kept()
	for _, f := range kept {
		a.store = append(a.store, word(f.Origin, f.Seq, f.Body))
	}
	for _, q := range others(m.c.Nodes, m.self) {
		for _, f := range kept {
			if f.Origin != q && f.Seq > a.views[q][f.Origin] {
				a.tick = append(a.tick, api.Packet{To: q, Text: m.text(f)})
			}
		}
		a.tick = append(a.tick, to(encoded(m.c, api.Frame{Kind: api.State, From: m.self, Vector: a.clock}), q)...)
	}
	return a
}

// near gives a frame for a node about which there is something to decide: its numbers are close to what the node has heard.
func (d *dice) near(c api.Config, clock []int) api.Frame {
	f := api.Frame{Kind: api.State, From: d.roll(c.Nodes), Vector: make([]int, c.Nodes)}
	for i, v := range clock {
		f.Vector[i] = min(max(v+d.roll(4)-2, 0), c.Last)
	}
	if d.roll(4) == 0 {
		return f
	}
	f.Kind, f.Origin = api.Data, d.roll(c.Nodes)
	f.Seq = min(max(clock[f.Origin]+d.roll(c.Window+3)-1, 1), c.Last)
	f.Low = f.Seq - 1 - d.roll(min(f.Seq, c.Window))
	f.Vector[f.Origin] = f.Seq - 1
	f.Body = d.text(d.roll(c.Body + 1))
	return f
}

// walk is a group of nodes, their models, and the packets between them.
type walk struct {
	*testing.T
	c      api.Config
	d      *dice
	nodes  []*hearsay.Node
	models []*model
	way    []api.Packet
	met    map[string]int
}

func newWalk(t *testing.T, c api.Config, d *dice, met map[string]int) *walk {
	w := &walk{T: t, c: c, d: d, met: met}
	for p := range c.Nodes {
		w.nodes = append(w.nodes, newBench(t, c, p).node)
		w.models = append(w.models, newModel(c, p))
	}
	return w
}

func (w *walk) say(p int) {
	body := w.d.text(w.d.roll(w.c.Body + 1))
	if w.d.roll(10) == 0 {
		body = w.d.text(w.c.Body + 1)
	}
	seq, l, e := w.nodes[p].Say(body)
	wantSeq, want, f := w.models[p].say(body)
	w.count("say", e)
	if seq != wantSeq || !slices.Equal(l, want) || e != f {
		w.Fatalf("P8: Say(%q) = %d, %x, %d, want %d, %x, %d", body, seq, l, e, wantSeq, want, f)
	}
	w.way = append(w.way, l...)
}

func (w *walk) hear(p int, s string) {
	was := len(w.models[p].heard)
	l, e := w.nodes[p].Hear(s)
	want, f := w.models[p].hear(s)
	w.count("hear", e)
	if !slices.Equal(l, want) || e != f {
		w.Fatalf("P9, P10: Hear(%x) = %x, %d, want %x, %d", s, l, e, want, f)
	}
	if len(w.models[p].heard) > was+1 {
		w.met["several heard"]++
	}
	w.way = append(w.way, l...)
}

func (w *walk) count(call string, e api.Errno) {
	w.met[call+" "+string('0'+rune(e))]++
}

// deliver takes any packet on its way: it comes, it is lost, or it comes and stays to come once more.
func (w *walk) deliver() {
	if len(w.way) == 0 {
		return
	}
	k := w.d.roll(len(w.way))
	x := w.way[k]
	fate := w.d.roll(10)
	if fate > 1 || len(w.way) > 60 {
		w.way = slices.Delete(w.way, k, k+1)
	}
	if fate != 9 {
		w.hear(x.To, x.Text)
	}
}

func (w *walk) step(forged bool) {
	p := w.d.roll(w.c.Nodes)
	switch k := w.d.roll(20); {
	case k < 4:
		w.say(p)
	case k < 6:
		w.way = append(w.way, w.nodes[p].Tick()...)
	case k < 9 && forged:
		s := encoded(w.c, w.d.near(w.c, w.models[p].clock()))
		if w.d.roll(8) == 0 {
			s = spoil(w.d, s)
		}
		w.hear(p, s)
	default:
		w.deliver()
	}
	if got, want := all(w.nodes[p], w.c), w.models[p].all(); !reflect.DeepEqual(got, want) {
		w.Fatalf("P12: node %d of %+v is %+v, want %+v", p, w.c, got, want)
	}
}

// P7 to P12: long walks of whole groups, with packets lost, doubled and late, and, in half of them, frames that no node has sent.
func TestNodesAreAsTheModel(t *testing.T) {
	var d dice = 12
	met := map[string]int{}
	for i := range 300 {
		c := api.Config{Nodes: 2 + d.roll(4), Window: 1 + d.roll(4), Body: d.roll(4), Last: 1 + d.roll(30)}
		if i%10 == 0 {
			c.Nodes, c.Window = api.MaxNodes, api.MaxWindow
		}
		w := newWalk(t, c, &d, met)
		for range 200 {
			w.step(i%2 == 0)
		}
	}
	for _, name := range []string{"say 0", "say 2", "say 3", "say 4", "hear 0", "hear 5", "hear 6", "hear 7", "hear 8", "several heard"} {
		if met[name] < 50 {
			t.Errorf("the walks show %q just %d times", name, met[name])
		}
	}
}
