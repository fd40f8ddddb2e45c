package mesh

import (
	"slices"
	"strings"

	"hearsay/api"
	"hearsay/fault"
)

// Deliver lets a packet come to its node, and tells why the node refuses it (P15).
func (m *Mesh) Deliver(k int) error {
	packet, err := m.Peek(k)
	if err != nil {
		return err
	}
	m.remove(k)
	// Only packets to nodes of the group are ever laid on their way.
	n := &m.members[packet.To]
	packets, err := n.Hear(packet.Text)
	if err != nil {
		n.refused++
	}
	m.lay(packets...)
	return err
}

// Drop loses a packet (P15).
func (m *Mesh) Drop(k int) error {
	if _, err := m.Peek(k); err != nil {
		return err
	}
	m.remove(k)
	return nil
}

// Copy doubles a packet (P15).
func (m *Mesh) Copy(k int) error {
	packet, err := m.Peek(k)
	if err != nil {
		return err
	}
	m.lay(packet)
	return nil
}

// Send lays any text on the way to a node (P15).
func (m *Mesh) Send(to int, s string) error {
	if _, err := m.member(to); err != nil {
		return err
	}
	if len(s) > api.MaxFrame {
		return fault.Why{What: "the text is too long for a packet", Kind: fault.Long}
	}
	m.lay(api.Packet{To: to, Text: strings.Clone(s)}) // what is handed in is not kept (P2)
	return nil
}

// Left tells how many packets are on their way (P15).
func (m *Mesh) Left() int { return len(m.way) }

// Peek tells a packet (P15).
func (m *Mesh) Peek(k int) (api.Packet, error) {
	if k < 0 || k >= len(m.way) {
		return api.Packet{}, fault.Why{What: "no packet of that number is on its way", Kind: fault.Arg}
	}
	return m.way[k], nil
}

func (m *Mesh) lay(packets ...api.Packet) { m.way = append(m.way, packets...) }

func (m *Mesh) remove(k int) { m.way = slices.Delete(m.way, k, k+1) }
