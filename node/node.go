// Package node: one node of a group: what it has heard, what it knows of the others, and what it keeps.
package node

import (
	"slices"

	"hearsay/api"
	"hearsay/fault"
	"hearsay/group"
)

// Node is one node of a group.
type Node struct {
	group api.Config
	self  int
	views [][]int     // of each node, what it is known to have heard; the node's own one is its clock
	store []api.Frame // each word as the frame with which this node passes it on; by origins, then by numbers
	heard []api.Word
}

// New makes a node that has heard nothing (P7).
func New(c api.Config, p int) (*Node, error) {
	if err := group.Check(c); err != nil {
		return nil, err
	}
	if !group.Has(c, p) {
		return nil, refuse(fault.Arg, "the node is none of the group")
	}
	return &Node{group: c, self: p, views: newViews(c)}, nil
}

// Heard tells all words that the node has heard, in their order (P12).
func (n *Node) Heard() []api.Word { return slices.Clone(n.heard) }

// Clock tells how many words of each node it has heard (P12).
func (n *Node) Clock() []int { return slices.Clone(n.clock()) }

// View tells what the node knows q to have heard (P12).
func (n *Node) View(q int) ([]int, error) {
	if !group.Has(n.group, q) {
		return nil, refuse(fault.Arg, "there is no view of what is no node")
	}
	return slices.Clone(n.views[q]), nil
}

// Store tells the words that the node keeps (P12).
func (n *Node) Store() []api.Word {
	var words []api.Word
	for _, f := range n.store {
		words = append(words, wordOf(f))
	}
	return words
}

func wordOf(f api.Frame) api.Word { return api.Word{Origin: f.Origin, Seq: f.Seq, Body: f.Body} }

func refuse(kind error, what string) error { return fault.Why{What: what, Kind: kind} }
