// Package hearsay: words that are heard by all of a group, none ahead of what its speaker had heard: see DOC.md.
package hearsay

import (
	"hearsay/api"
	"hearsay/group"
	"hearsay/mesh"
	"hearsay/node"
	"hearsay/wire"
)

// Check tells whether a group may be (P3).
func Check(c api.Config) api.Errno { return number(group.Check(c)) }

// Sum tells the check sum of a text (P4).
func Sum(s string) int { return wire.Sum(s) }

// Encode tells a frame as bytes (P5).
func Encode(c api.Config, f api.Frame) (string, api.Errno) {
	s, err := wire.Encode(c, f)
	return s, number(err)
}

// Decode tells the frame that some bytes are, or where they are wrong (P6).
func Decode(c api.Config, s string) (api.Frame, int, api.Errno) {
	f, err := wire.Decode(c, s)
	return f, place(err), number(err)
}

// Node is a node of a group.
type Node struct{ inner *node.Node }

// NewNode makes a node that has heard nothing (P7).
func NewNode(c api.Config, p int) (*Node, api.Errno) {
	inner, err := node.New(c, p)
	if err != nil {
		return nil, number(err)
	}
	return &Node{inner}, api.OK
}

// Say says a word (P8).
func (n *Node) Say(body string) (int, []api.Packet, api.Errno) {
	seq, packets, err := n.inner.Say(body)
	return seq, packets, number(err)
}

// Hear takes in a packet's text (P9, P10).
func (n *Node) Hear(s string) ([]api.Packet, api.Errno) {
	packets, err := n.inner.Hear(s)
	return packets, number(err)
}

// Tick tells what the node sends from time to time (P11).
func (n *Node) Tick() []api.Packet { return n.inner.Tick() }

// Heard tells all words that the node has heard, in their order (P12).
func (n *Node) Heard() []api.Word { return n.inner.Heard() }

// Clock tells how many words of each node it has heard (P12).
func (n *Node) Clock() []int { return n.inner.Clock() }

// View tells what the node knows of the clock of another one (P12).
func (n *Node) View(q int) ([]int, api.Errno) {
	view, err := n.inner.View(q)
	return view, number(err)
}

// Store tells the words that the node keeps (P12).
func (n *Node) Store() []api.Word { return n.inner.Store() }

// Net is a group's nodes and the packets between them.
type Net struct{ inner *mesh.Mesh }

// NewNet makes a group (P13).
func NewNet(c api.Config) (*Net, api.Errno) {
	inner, err := mesh.New(c)
	if err != nil {
		return nil, number(err)
	}
	return &Net{inner}, api.OK
}

// Say lets a node say a word (P14).
func (x *Net) Say(p int, body string) (int, api.Errno) {
	seq, err := x.inner.Say(p, body)
	return seq, number(err)
}

// Tick lets a node send what it sends from time to time (P14).
func (x *Net) Tick(p int) api.Errno { return number(x.inner.Tick(p)) }

// Deliver lets a packet come to its node (P15).
func (x *Net) Deliver(k int) api.Errno { return number(x.inner.Deliver(k)) }

// Drop loses a packet (P15).
func (x *Net) Drop(k int) api.Errno { return number(x.inner.Drop(k)) }

// Copy doubles a packet (P15).
func (x *Net) Copy(k int) api.Errno { return number(x.inner.Copy(k)) }

// Send lays any text on the way to a node (P15).
func (x *Net) Send(to int, s string) api.Errno { return number(x.inner.Send(to, s)) }

// Left tells how many packets are on their way (P15).
func (x *Net) Left() int { return x.inner.Left() }

// Peek tells a packet (P15).
func (x *Net) Peek(k int) (api.Packet, api.Errno) {
	packet, err := x.inner.Peek(k)
	return packet, number(err)
}

// Heard tells all words that a node has heard, in their order (P16).
func (x *Net) Heard(p int) ([]api.Word, api.Errno) {
	words, err := x.inner.Heard(p)
	return words, number(err)
}

// Store tells the words that a node keeps (P16).
func (x *Net) Store(p int) ([]api.Word, api.Errno) {
	words, err := x.inner.Store(p)
	return words, number(err)
}

// Refused tells how many packets a node has refused (P16).
func (x *Net) Refused(p int) (int, api.Errno) {
	count, err := x.inner.Refused(p)
	return count, number(err)
}
