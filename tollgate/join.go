package tollgate

import "tollgate/api"

// Join brings the other node up to date (P11).
func (c *Cluster) Join(node int) (int, api.Errno) {
	e := c.upError(node)
	if e != api.OK {
		return 0, e
	}
	if !c.hasLease(node) {
		return api.Elsewhere, api.OK
	}
	// First of all: once solo is no longer noted, the other may take over, whether this node hears of it or not.
	c.gates[node].own.Alone = false
	if !c.tellLevels(node) {
		return api.Lost, api.OK
	}
	if !c.endSolo(node) {
		return api.Lost, api.OK
	}
	return api.Joined, api.OK
}

// tellLevels hands the other node this one's levels, and tells whether it has answered.
func (c *Cluster) tellLevels(node int) bool {
	peer := other(node)
	arrives, answered := c.message(node, peer)
	if arrives {
		c.gates[peer].levels = c.gates[node].levels
	}
	return answered
}

// endSolo has the witness let the other node in again, and tells whether it has answered.
func (c *Cluster) endSolo(node int) bool {
	arrives, answered := c.message(node, api.Arbiter)
	if arrives {
		c.witness.Solo = false
	}
	return answered
}
