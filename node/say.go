package node

import (
	"slices"
	"strings"

	"hearsay/api"
	"hearsay/fault"
)

// Say says a word, and tells its number and what goes to the others (P8).
func (n *Node) Say(body string) (int, []api.Packet, error) {
	if err := n.checkSay(body); err != nil {
		return 0, nil, err
	}
	f := n.nextWord(body)
	n.keep(f)
	n.take(f)
	packets := n.passOn(f, n.self)
	n.forget()
	return f.Seq, packets, nil
}

func (n *Node) checkSay(body string) error {
	said := n.clock()[n.self]
	switch {
	case len(body) > n.group.Body:
		return refuse(fault.Long, "the body is too long")
	case said >= n.group.Last:
		return refuse(fault.Spent, "the node has said its last word")
	case said-n.low(n.self) >= n.group.Window:
		return refuse(fault.Busy, "as many words as may be are under way")
	}
	return nil
}

// nextWord makes the word that the node is to say next. It is asked ahead of hearing it, since the Low and the deps are those without it.
func (n *Node) nextWord(body string) api.Frame {
	deps := slices.Clone(n.clock())
	return api.Frame{
		Kind:   api.Data,
		From:   n.self,
		Origin: n.self,
		Seq:    deps[n.self] + 1,
		Low:    n.low(n.self),
		Vector: deps,
		Body:   strings.Clone(body), // what is handed in is not kept (P2)
	}
}
