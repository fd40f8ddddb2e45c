package node

import (
	"hearsay/api"
	"hearsay/fault"
	"hearsay/wire"
)

// Hear takes in a packet's text, and tells what is passed on (P9, P10).
func (n *Node) Hear(s string) ([]api.Packet, error) {
	f, err := wire.Decode(n.group, s)
	if err != nil {
		return nil, err
	}
	if err := n.checkSender(f); err != nil {
		return nil, err
	}
	if f.Kind == api.Data {
		return n.hearData(f)
	}
	n.learnVector(f.From, f.Vector)
	n.forget()
	return nil, nil
}

func (n *Node) checkSender(f api.Frame) error {
	if f.From == n.self {
		return refuse(fault.Self, "it is from this node")
	}
	if f.Kind == api.Data && f.Origin == n.self {
		return refuse(fault.Self, "the word is one of this node")
	}
	return nil
}

func (n *Node) hearData(f api.Frame) ([]api.Packet, error) {
	if err := n.checkNew(f); err != nil {
		return nil, err
	}
	from := f.From
	f.From = n.self
	n.learnLow(f.Origin, f.Low)
	n.keep(f)
	packets := n.passOn(f, from)
	n.hearKept()
	n.forget()
	return packets, nil
}

func (n *Node) checkNew(f api.Frame) error {
	known := n.clock()[f.Origin]
	switch {
	case f.Seq <= known:
		return refuse(fault.Old, "the word was heard")
	case n.keeps(f):
		return refuse(fault.Old, "the word is kept")
	case f.Seq > known+n.group.Window:
		return refuse(fault.Far, "the word is too far ahead")
	}
	return nil
}

// hearKept hears each word whose turn it is. One that was heard may be what a word of any origin waited for, so it begins anew with the least origin.
func (n *Node) hearKept() {
anew:
	for _, f := range n.store {
		if n.isNext(f) {
			n.take(f)
			goto anew
		}
	}
}

// isNext asks for the number by itself too: a word that was heard stays in the store, and its deps are no greater than the clock.
func (n *Node) isNext(f api.Frame) bool {
	clock := n.clock()
	if f.Seq != clock[f.Origin]+1 {
		return false
	}
	for o, v := range f.Vector {
		if v > clock[o] {
			return false
		}
	}
	return true
}

func (n *Node) take(f api.Frame) {
	n.clock()[f.Origin] = f.Seq
	n.heard = append(n.heard, wordOf(f))
}
