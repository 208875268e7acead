package tollgate

import "tollgate/api"

// Ask decides a request (P9).
func (c *Cluster) Ask(node int, tenant int, cost int) (int, api.Errno) {
	e := c.requestError(node, tenant, cost)
	if e != api.OK {
		return 0, e
	}
	if !c.gates[node].own.Up {
		return 0, api.ErrDown
	}
	if !c.hasLease(node) {
		return api.Elsewhere, api.OK
	}
	window := c.gates[node].windows[tenant]
	if window >= cost {
		c.gates[node].windows[tenant] = window - cost
		return api.Admit, api.OK
	}
	missing := cost - window
	if c.gates[node].levels[tenant] < missing {
		return api.Deny, api.OK
	}
	r := c.reserve(node, tenant, missing)
	if !c.secure(node, tenant, r) {
		return api.Busy, api.OK
	}
	c.charge(node, tenant, r)
	c.gates[node].windows[tenant] = r - missing
	return api.Admit, api.OK
}

// requestError is what is wrong with a request at whichever node, up or not.
func (c *Cluster) requestError(node int, tenant int, cost int) api.Errno {
	if !isNode(node) {
		return api.ErrNode
	}
	if !c.hasTenant(tenant) {
		return api.ErrTenant
	}
	if cost < 1 || cost > api.MaxCost {
		return api.ErrCost
	}
	return api.OK
}

// reserve is how much to secure for what is missing: a new window is secured with it, if the level lasts for both.
func (c *Cluster) reserve(node int, tenant int, missing int) int {
	if c.gates[node].levels[tenant] < missing+c.window {
		return missing
	}
	return missing + c.window
}

// secure sees to it that the other node does not let by what this one is about to charge (P10).
func (c *Cluster) secure(node int, tenant int, r int) bool {
	if c.gates[node].own.Alone {
		return true
	}
	peer := other(node)
	arrives, answered := c.message(node, peer)
	if arrives {
		c.charge(peer, tenant, r)
	}
	if answered {
		return true
	}
	return c.goAlone(node)
}

// goAlone has the witness keep the other node out, as that one may not know what is spent (P10).
func (c *Cluster) goAlone(node int) bool {
	arrives, answered := c.message(node, api.Arbiter)
	if arrives {
		c.witness.Solo = true
	}
	// Without an answer the node cannot count on the witness's note, though it may stand.
	if answered {
		c.gates[node].own.Alone = true
	}
	return answered
}

func (c *Cluster) charge(node int, tenant int, r int) {
	level := c.gates[node].levels[tenant] - r
	// The other node's level may stand below the one that r was taken out of.
	if level < 0 {
		level = 0
	}
	c.gates[node].levels[tenant] = level
}
