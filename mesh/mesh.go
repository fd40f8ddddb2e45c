// Package mesh: all nodes of a group, and the packets that are on their way between them.
package mesh

import (
	"hearsay/api"
	"hearsay/fault"
	"hearsay/group"
	"hearsay/node"
)

// Mesh is a group's nodes and the packets between them.
type Mesh struct {
	members []member
	way     []api.Packet // in the order in which they were laid on their way: a packet's number is its place here
}

type member struct {
	*node.Node
	refused int
}

// New makes a group of new nodes, with no packet on its way (P13).
func New(c api.Config) (*Mesh, error) {
	if err := group.Check(c); err != nil {
		return nil, err
	}
	m := &Mesh{}
	for p := range c.Nodes {
		n, err := node.New(c, p)
		if err != nil {
			return nil, err
		}
		m.members = append(m.members, member{Node: n})
	}
	return m, nil
}

// Say lets a node say a word, and tells its number (P14).
func (m *Mesh) Say(p int, body string) (int, error) {
	n, err := m.member(p)
	if err != nil {
		return 0, err
	}
	seq, packets, err := n.Say(body)
	m.lay(packets...)
	return seq, err
}

// Tick lets a node send what it sends from time to time (P14).
func (m *Mesh) Tick(p int) error {
	n, err := m.member(p)
	if err != nil {
		return err
	}
	m.lay(n.Tick()...)
	return nil
}

// Heard tells all words that a node has heard, in their order (P16).
func (m *Mesh) Heard(p int) ([]api.Word, error) {
	n, err := m.member(p)
	if err != nil {
		return nil, err
	}
	return n.Heard(), nil
}

// Store tells the words that a node keeps (P16).
func (m *Mesh) Store(p int) ([]api.Word, error) {
	n, err := m.member(p)
	if err != nil {
		return nil, err
	}
	return n.Store(), nil
}

// Refused tells how many of the packets that came to a node it has refused (P16).
func (m *Mesh) Refused(p int) (int, error) {
	n, err := m.member(p)
	if err != nil {
		return 0, err
	}
	return n.refused, nil
}

func (m *Mesh) member(p int) (*member, error) {
	if p < 0 || p >= len(m.members) {
		return nil, fault.Why{What: "the net has no such node", Kind: fault.Arg}
	}
	return &m.members[p], nil
}
