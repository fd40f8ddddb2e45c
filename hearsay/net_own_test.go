package hearsay_test

import (
	"reflect"
	"testing"
	"unsafe"

	"hearsay/api"
)

// busyNet gives a net with words heard, kept and under way, after each step writing into all lists that came out.
func busyNet(t *testing.T, write bool) field {
	f := newField(t, three)
	after := func() {
		a := f.all()
		for p := range three.Nodes {
			if write {
				scribble(a.heard[p], word(9, 99, "?"))
				scribble(a.store[p], word(9, 99, "?"))
			}
		}
	}
	for _, step := range []func(){
		func() { f.says(0, "a", 1) }, func() { f.delivers(0, api.OK) }, func() { f.says(1, "b", 1) }, func() { f.delivers(3, api.OK) },
		func() { f.delivers(1, api.OK) }, func() { f.ticks(2) }, func() { f.copies(2) }, func() { f.sends(0, "no frame") },
		func() { f.delivers(f.net.Left()-1, api.ErrFrame) }, func() { f.says(0, "c", 2) }, func() { f.drops(1) },
	} {
		step()
		after()
	}
	return f
}

// P2: nothing hangs on what is written into the lists that a net gives.
func TestNetGivesNewLists(t *testing.T) {
	still, written := busyNet(t, false), busyNet(t, true)
	if a, b := still.all(), written.all(); !reflect.DeepEqual(a, b) {
		t.Errorf("P2: a net is %+v, and %+v where its lists were written into", a, b)
	}
	a, b := still.all(), still.all()
	for p := range three.Nodes {
		scribble(a.heard[p], word(9, 99, "?"))
		scribble(a.store[p], word(9, 99, "?"))
	}
	still.is(b)
}

// P2: lists that came out stay as they are, whatever the net does behind that.
func TestNetListsStay(t *testing.T) {
	f := busyNet(t, false)
	heard, _ := f.net.Heard(2)
	store, _ := f.net.Store(2)
	wasHeard, wasStore := append([]api.Word{}, heard...), append([]api.Word{}, store...)
	for range 2 {
		f.settle([]int{0, 1, 2}, func(int) int { return 0 })
	}
	f.keeps(2)
	if !reflect.DeepEqual(heard, wasHeard) || !reflect.DeepEqual(store, wasStore) || len(store) == 0 {
		t.Errorf("P2: lists that came out have become %v and %v, and were %v and %v", heard, store, wasHeard, wasStore)
	}
}

// P2: a net hangs on no memory of a text that was handed in, on its way or kept.
func TestNetKeepsNoText(t *testing.T) {
	f := newField(t, three)
	body := []byte("own")
	f.says(0, unsafe.String(&body[0], len(body)), 1)
	text := []byte(newBench(t, three, 1).data(1, 1, 1, 0, "hi", 0, 0, 0))
	for range 2 {
		f.sends(2, unsafe.String(&text[0], len(text)))
	}
	f.delivers(2, api.OK)
	was := f.all()
	clear(body)
	clear(text)
	f.is(was)
	f.hasHeard(0, word(0, 1, "own"))
	f.hasHeard(2, word(1, 1, "hi"))
	f.delivers(2, api.ErrOld)
}

// P2: nets of the same group have nothing to do with one another, and their nodes but by packets.
func TestNetsAreApart(t *testing.T) {
	still := newField(t, three)
	was := still.all()
	busyNet(t, false)
	still.is(was)
	still.says(1, "a", 1)
	still.ticks(1)
	for _, p := range []int{0, 2} {
		still.hasHeard(p)
		still.keeps(p)
	}
}
