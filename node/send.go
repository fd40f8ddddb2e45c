package node

import (
	"hearsay/api"
	"hearsay/wire"
)

// Tick tells what the node sends from time to time: what the others may lack, and what it has heard (P11).
func (n *Node) Tick() []api.Packet {
	state := n.text(api.Frame{Kind: api.State, From: n.self, Vector: n.clock()})
	var packets []api.Packet
	for q := range n.group.Nodes {
		if q == n.self {
			continue
		}
		for _, f := range n.store {
			if f.Origin != q && f.Seq > n.views[q][f.Origin] {
				packets = append(packets, api.Packet{To: q, Text: n.text(f)})
			}
		}
		packets = append(packets, api.Packet{To: q, Text: state})
	}
	return packets
}

// passOn tells the packets with a word for all but this node, its origin and the node from which it came: these have it.
func (n *Node) passOn(f api.Frame, from int) []api.Packet {
	text := n.text(f)
	var packets []api.Packet
	for q := range n.group.Nodes {
		if q != n.self && q != f.Origin && q != from {
			packets = append(packets, api.Packet{To: q, Text: text})
		}
	}
	return packets
}

// text has no error to tell: what a node says, keeps or has heard is always a frame of its group.
func (n *Node) text(f api.Frame) string {
	s, _ := wire.Encode(n.group, f)
	return s
}
