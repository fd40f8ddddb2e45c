package node

import "hearsay/api"

func newViews(c api.Config) [][]int {
	views := make([][]int, c.Nodes)
	for q := range views {
		views[q] = make([]int, c.Nodes)
	}
	return views
}

func (n *Node) clock() []int { return n.views[n.self] }

// low tells how many words of an origin all nodes have heard, as far as this one knows.
func (n *Node) low(origin int) int {
	least := n.group.Last
	for _, view := range n.views {
		least = min(least, view[origin])
	}
	return least
}

// learnVector takes in what a node says that it has heard (P9).
func (n *Node) learnVector(q int, vector []int) {
	for o, v := range vector {
		n.learn(q, o, v)
	}
}

// learnLow takes in what the speaker knew all to have heard of its words (P10).
// The clock stays: this node has not heard those words that it lacks, whatever the speaker thought.
func (n *Node) learnLow(origin, low int) {
	for q := range n.views {
		if q != n.self {
			n.learn(q, origin, low)
		}
	}
}

// learn never lowers a number: what comes late tells less than what is known.
func (n *Node) learn(q, origin, v int) {
	n.views[q][origin] = max(n.views[q][origin], v)
}
