package hearsay_test

import (
	"reflect"
	"slices"
	"testing"

	"hearsay/api"
	"hearsay/hearsay"
)

// settle lets all nodes tick, then all packets come, and those that come of it, each time the one that pick tells.
func (f field) settle(order []int, pick func(left int) int) {
	f.Helper()
	for _, p := range order {
		f.ticks(p)
	}
	for i := 0; f.net.Left() > 0; i++ {
		if i > 20000 {
			f.Fatalf("P18: packets come of packets without an end: %d are left", f.net.Left())
		}
		f.net.Deliver(pick(f.net.Left()))
	}
}

// saying is a word as it was said: its body, and what its speaker had heard before it.
type saying struct {
	body   string
	before []api.Word
}

// chronicle writes down what is said in a net, and holds what its nodes hear and keep against that.
type chronicle struct {
	field
	d     *dice
	said  map[mark]saying
	lists [][]api.Word        // of each node, what it had heard at the last look
	heard []map[mark]struct{} // the same, to be asked
	known []map[mark]struct{} // of each node, what it had heard or kept, and not forgotten, at the last look
	met   map[string]int
}

func newChronicle(t *testing.T, c api.Config, d *dice, met map[string]int) *chronicle {
	h := &chronicle{field: newField(t, c), d: d, said: map[mark]saying{}, lists: make([][]api.Word, c.Nodes), met: met}
	for range c.Nodes {
		h.heard = append(h.heard, map[mark]struct{}{})
		h.known = append(h.known, map[mark]struct{}{})
	}
	return h
}

func markOf(w api.Word) mark { return mark{w.Origin, w.Seq} }

func (h *chronicle) say(p int) {
	body := h.d.text(h.d.roll(h.c.Body + 1))
	before, _ := h.net.Heard(p)
	seq, e := h.net.Say(p, body)
	if e != api.OK {
		return
	}
	if _, twice := h.said[mark{p, seq}]; twice {
		h.Fatalf("P8: node %d says a second word number %d", p, seq)
	}
	h.said[mark{p, seq}] = saying{body, before}
}

// look holds against the chronicle what was heard, and what was forgotten, since the last look.
func (h *chronicle) look() {
	h.Helper()
	for p := range h.c.Nodes {
		h.lookHeard(p)
	}
	for p := range h.c.Nodes {
		h.lookForgotten(p)
	}
}

func (h *chronicle) lookHeard(p int) {
	h.Helper()
	l, _ := h.net.Heard(p)
	n := len(h.lists[p])
	if len(l) < n || !slices.Equal(l[:n], h.lists[p]) {
		h.Fatalf("P17: node %d had heard %x, and now %x", p, h.lists[p], l)
	}
	for _, w := range l[n:] {
		h.checkWord(p, w)
		h.heard[p][markOf(w)] = struct{}{}
		h.known[p][markOf(w)] = struct{}{}
	}
	if len(l) > n+1 {
		h.met["held back"]++
	}
	h.lists[p] = l
}

// checkWord asks of a word that a node hears next all that P17 promises.
func (h *chronicle) checkWord(p int, w api.Word) {
	h.Helper()
	s, ok := h.said[markOf(w)]
	if !ok || s.body != w.Body {
		h.Fatalf("P17: node %d hears %x, which was not said", p, w)
	}
	if _, twice := h.heard[p][markOf(w)]; twice {
		h.Fatalf("P17: node %d hears %x twice", p, w)
	}
	if _, ok := h.heard[p][mark{w.Origin, w.Seq - 1}]; !ok && w.Seq > 1 {
		h.Fatalf("P17: node %d hears %x ahead of the word before it", p, w)
	}
	for _, b := range s.before {
		if _, ok := h.heard[p][markOf(b)]; !ok {
			h.Fatalf("P17: node %d hears %x ahead of %x, which its speaker had heard", p, w, b)
		}
	}
}

func (h *chronicle) lookForgotten(p int) {
	h.Helper()
	store, _ := h.net.Store(p)
	now := map[mark]struct{}{}
	for _, w := range store {
		now[markOf(w)] = struct{}{}
		if s, ok := h.said[markOf(w)]; !ok || s.body != w.Body {
			h.Fatalf("P17: node %d keeps %x, which was not said", p, w)
		}
	}
	for w := range h.known[p] {
		if _, kept := now[w]; !kept {
			h.checkForgotten(p, w)
		}
	}
	h.known[p] = now
}

func (h *chronicle) checkForgotten(p int, w mark) {
	h.Helper()
	h.met["forgotten"]++
	for q := range h.c.Nodes {
		if _, ok := h.heard[q][w]; !ok {
			h.Fatalf("P19: node %d has forgotten word %d of %d, which node %d has not heard", p, w[1], w[0], q)
		}
	}
}

// noFrame gives a text that is no frame of the group, though often nearly one.
func (d *dice) noFrame(c api.Config) string {
	for {
		s := d.text(d.roll(api.MaxFrame + 1))
		if d.roll(4) > 0 {
			s = spoil(d, encoded(c, d.frame(c)))
		}
		if _, _, e := hearsay.Decode(c, s); e != api.OK {
			return s
		}
	}
}

// spoilPacket lays a packet's text on its way with one byte another.
func (h *chronicle) spoilPacket(k int) {
	x, _ := h.net.Peek(k)
	b := []byte(x.Text)
	if len(b) > 0 {
		b[h.d.roll(len(b))] ^= byte(1 << h.d.roll(8))
		h.sends(x.To, string(b))
	}
}

// step does anything to the net that P17 to P19 speak of.
func (h *chronicle) step(loss int) {
	h.Helper()
	p, left := h.d.roll(h.c.Nodes), h.net.Left()
	switch k := h.d.roll(30); {
	case k < 6:
		h.say(p)
	case k < 8:
		h.ticks(p)
	case k == 8:
		h.sends(p, h.d.noFrame(h.c))
	case left == 0:
		return
	case k == 9:
		h.spoilPacket(h.d.roll(left))
	case k < 12:
		h.net.Copy(h.d.roll(left))
	case k < 12+loss || left > 100:
		h.net.Drop(h.d.roll(left))
	default:
		h.met["deliver "+string('0'+rune(h.net.Deliver(h.d.roll(left))))]++
	}
	h.look()
}

// order gives the group's nodes in any order.
func (d *dice) order(nodes int) []int {
	order := others(nodes, -1)
	for i := range order {
		k := d.roll(i + 1)
		order[i], order[k] = order[k], order[i]
	}
	return order
}

// pick gives a rule by which packets come: the first one first, the last one first, or any.
func (h *chronicle) pick() func(left int) int {
	way := h.d.roll(3)
	return func(left int) int {
		h.look()
		return []int{0, left - 1, h.d.roll(left)}[way]
	}
}

// settles: twice all tick and all comes (P18).
func (h *chronicle) settles() {
	h.Helper()
	h.settle(h.d.order(h.c.Nodes), h.pick())
	h.look()
	for p, l := range h.lists {
		if len(l) != len(h.said) {
			h.Fatalf("P18: node %d of %+v has heard %d words, and %d were said", p, h.c, len(l), len(h.said))
		}
	}
	h.settle(h.d.order(h.c.Nodes), h.pick())
	h.look()
	for p := range h.c.Nodes {
		h.keeps(p)
	}
}

func (d *dice) lively() api.Config {
	c := api.Config{Nodes: 2 + d.roll(4), Window: 1 + d.roll(4), Body: d.roll(4), Last: 5 + d.roll(40)}
	if d.roll(8) == 0 {
		c.Nodes, c.Window, c.Last = api.MaxNodes, 1+d.roll(api.MaxWindow), api.MaxLast
	}
	return c
}

// P17 to P19: nets in which packets are lost, doubled, late and spoilt, little and much; now and then all may settle.
func TestWordsAreHeardByAll(t *testing.T) {
	var d dice = 17
	met := map[string]int{}
	for range 60 {
		h := newChronicle(t, d.lively(), &d, met)
		for range 3 {
			loss := d.roll(19)
			for range 100 {
				h.step(loss)
			}
			h.settles()
		}
		met["said"] += len(h.said)
	}
	for _, name := range []string{"said", "held back", "forgotten", "deliver 0", "deliver 5", "deliver 7"} {
		if met[name] < 100 {
			t.Errorf("the nets show %q just %d times", name, met[name])
		}
	}
}

// P18: though every packet is lost but those of the two rounds, and words are said up to the last one.
func TestSettlesBehindSilence(t *testing.T) {
	var d dice = 18
	for _, c := range []api.Config{small, three, {Nodes: 8, Window: 8, Body: 0, Last: 20}, {Nodes: 2, Window: 3, Body: 1, Last: 10}} {
		h := newChronicle(t, c, &d, map[string]int{})
		for range (c.Last + c.Window - 1) / c.Window {
			for i := range c.Nodes * c.Window {
				h.say(i % c.Nodes)
				for range h.net.Left() {
					h.net.Drop(0)
				}
			}
			h.settles()
		}
		if len(h.said) != c.Nodes*c.Last {
			t.Errorf("P8, P18: %d words were said in %+v, want %d", len(h.said), c, c.Nodes*c.Last)
		}
	}
}

// P18: with nothing said the rounds leave nothing either.
func TestSettlesWithNothingSaid(t *testing.T) {
	for _, c := range []api.Config{small, three, great} {
		f := newField(t, c)
		was := f.all()
		f.settle(others(c.Nodes, -1), func(int) int { return 0 })
		f.is(was)
	}
}

// P17: a word waits for all that its speaker had heard, though its own packets come first.
func TestAnswerWaitsForQuestion(t *testing.T) {
	c := api.Config{Nodes: 4, Window: 2, Body: 5, Last: 9}
	f := newField(t, c)
	q, a, b := word(0, 1, "q"), word(1, 1, "a"), word(2, 1, "b")
	deliverTo := func(p int, w api.Word) {
		t.Helper()
		for k, x := range f.all().way {
			if g, _, _ := hearsay.Decode(c, x.Text); x.To == p && markOf(w) == (mark{g.Origin, g.Seq}) {
				f.delivers(k, api.OK)
				return
			}
		}
		t.Fatalf("P10: no packet with %v is on its way to %d", w, p)
	}
	f.says(0, "q", 1)
	deliverTo(1, q)
	f.says(1, "a", 1)
	deliverTo(2, a)
	f.hasHeard(2)
	deliverTo(2, q)
	f.hasHeard(2, q, a)
	f.says(2, "b", 1)
	deliverTo(3, b)
	deliverTo(3, a)
	f.hasHeard(3)
	f.keeps(3, a, b)
	deliverTo(3, q)
	f.hasHeard(3, q, a, b)
}

// P19: a word stays as long as the node does not know of one that it has heard it.
func TestForgetsWhenAllHaveHeard(t *testing.T) {
	f := newField(t, three)
	w := word(0, 1, "w")
	f.says(0, "w", 1)
	f.drops(1)
	f.delivers(0, api.OK)
	f.drops(0) // what 1 passes on to 2
	for _, p := range []int{1, 2} {
		f.ticks(p)
	}
	for range f.net.Left() {
		if x, _ := f.net.Peek(0); x.To == 2 {
			f.drops(0)
			continue
		}
		f.delivers(0, api.OK)
	}
	f.hasHeard(2)
	f.keeps(0, w)
	f.keeps(1, w)
	f.settle([]int{0, 1, 2}, func(int) int { return 0 })
	f.hasHeard(2, w)
	f.settle([]int{0, 1, 2}, func(int) int { return 0 })
	for p := range 3 {
		f.keeps(p)
		f.hasHeard(p, w)
	}
}

// most tells of how many words of one origin a node keeps most.
func (f field) most(p int) int {
	store, _ := f.net.Store(p)
	counts := make([]int, f.c.Nodes)
	for _, w := range store {
		counts[w.Origin]++
	}
	return slices.Max(counts)
}

// clock counts the words of each node that a node has heard.
func (f field) clock(p int) []int {
	clock := make([]int, f.c.Nodes)
	heard, _ := f.net.Heard(p)
	for _, w := range heard {
		clock[w.Origin]++
	}
	return clock
}

// P20: whatever frames come, from whomever, a store has its bound.
func TestStoreIsBounded(t *testing.T) {
	var d dice = 20
	full := 0
	for range 120 {
		f := newField(t, d.lively())
		p := d.roll(f.c.Nodes)
		for range 200 {
			f.sends(p, encoded(f.c, d.near(f.c, f.clock(p))))
			f.net.Deliver(f.net.Left() - 1)
			if d.roll(4) == 0 {
				f.net.Say(p, "")
			}
			for range f.net.Left() {
				f.net.Drop(0)
			}
			switch most := f.most(p); {
			case most > f.c.Window:
				t.Fatalf("P20: a node of %+v keeps %d words of one origin", f.c, most)
			case most == f.c.Window:
				full++
			}
		}
	}
	if full < 1000 {
		t.Errorf("the stores are full just %d times", full)
	}
}

// P20: a net to which texts come that are no frames goes on as one to which they don't.
func TestNoFrameChangesNothing(t *testing.T) {
	var d dice = 21
	for range 40 {
		c := d.lively()
		still, plagued := newField(t, c), newField(t, c)
		refused := make([]int, c.Nodes)
		for range 60 {
			p := d.roll(c.Nodes)
			plagued.sends(p, d.noFrame(c))
			plagued.delivers(plagued.net.Left()-1, api.ErrFrame)
			refused[p]++
			do, q, k := d.roll(5), d.roll(c.Nodes), d.roll(still.net.Left()+1)
			for _, f := range []field{still, plagued} {
				f.turn(do, q, k)
			}
		}
		want := still.all()
		for p := range refused {
			want.refused[p] += refused[p]
		}
		if is := plagued.all(); !reflect.DeepEqual(is, want) {
			t.Fatalf("P20: a net is %x behind texts that are no frames, want %x", is, want)
		}
	}
}

// turn does one thing of several to a net.
func (f field) turn(do, p, k int) {
	switch do {
	case 0:
		f.net.Say(p, "")
	case 1:
		f.net.Tick(p)
	case 2:
		f.net.Copy(k)
	default:
		f.net.Deliver(k)
	}
}
