package tollgate

import "tollgate/api"

// Campaign asks the witness for a lease (P8).
func (c *Cluster) Campaign(node int) (int, api.Errno) {
	e := c.upError(node)
	if e != api.OK {
		return 0, e
	}
	arrives, answered := c.message(node, api.Arbiter)
	if !arrives {
		return api.Lost, api.OK
	}
	granted := c.mayLead(node)
	if granted {
		c.grant(node)
	}
	// The witness has decided all the same: the node alone does not hear of it.
	if !answered {
		return api.Lost, api.OK
	}
	if !granted {
		return api.Refused, api.OK
	}
	c.takeLease(node)
	return api.Granted, api.OK
}

// Witness tells what the witness keeps (P7).
func (c *Cluster) Witness() api.Witness { return c.witness }

func (c *Cluster) hasLease(node int) bool {
	return c.gates[node].own.Up && c.now < c.gates[node].own.Until
}

// mayLead tells whether the witness grants the node a lease.
func (c *Cluster) mayLead(node int) bool {
	if c.witness.Holder == node || c.witness.Holder == nobody {
		return true
	}
	return c.now >= c.witness.Until && !c.witness.Solo
}

// grant is the witness's side of a lease.
func (c *Cluster) grant(node int) {
	if c.witness.Holder != node {
		c.witness.Epoch++
		c.witness.Holder = node
		c.witness.Solo = false
	}
	c.witness.Until = c.now + c.lease
}

// takeLease is the node's side of a lease that the witness has granted.
func (c *Cluster) takeLease(node int) {
	// The room leaves space for one window alone: with a new epoch the other node may have had its own.
	if c.gates[node].own.Epoch != c.witness.Epoch {
		c.gates[node].windows = [api.MaxTenants]int{}
	}
	c.gates[node].own.Epoch = c.witness.Epoch
	c.gates[node].own.Until = c.witness.Until
	c.gates[node].own.Alone = c.witness.Solo
}
