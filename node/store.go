package node

import (
	"cmp"
	"slices"

	"hearsay/api"
)

func byOriginAndSeq(a, b api.Frame) int {
	return cmp.Or(cmp.Compare(a.Origin, b.Origin), cmp.Compare(a.Seq, b.Seq))
}

func (n *Node) keeps(f api.Frame) bool {
	_, found := slices.BinarySearchFunc(n.store, f, byOriginAndSeq)
	return found
}

func (n *Node) keep(f api.Frame) {
	at, _ := slices.BinarySearchFunc(n.store, f, byOriginAndSeq)
	n.store = slices.Insert(n.store, at, f)
}

// forget lets go of the words that all have heard, as far as the node knows (P8).
func (n *Node) forget() {
	n.store = slices.DeleteFunc(n.store, func(f api.Frame) bool { return f.Seq <= n.low(f.Origin) })
}
