// Package group: which groups may be, and who is in them.
package group

import (
	"hearsay/api"
	"hearsay/fault"
)

// Check tells why a group may not be (P3).
func Check(c api.Config) error {
	switch {
	case c.Nodes < 2 || c.Nodes > api.MaxNodes:
		return refuse("Nodes is out of its bounds")
	case c.Window < 1 || c.Window > api.MaxWindow:
		return refuse("Window is out of its bounds")
	case c.Body < 0 || c.Body > api.MaxBody:
		return refuse("Body is out of its bounds")
	case c.Last < 1 || c.Last > api.MaxLast:
		return refuse("Last is out of its bounds")
	}
	return nil
}

// Has tells whether p is a node of the group.
func Has(c api.Config, p int) bool { return p >= 0 && p < c.Nodes }

func refuse(what string) error { return fault.Why{What: what, Kind: fault.Arg} }
