package tollgate

import "tollgate/api"

// Of a request that no waiting helps.
const never = -1

// Wait tells when a request could pass (P12).
func (c *Cluster) Wait(node int, tenant int, cost int) (int, api.Errno) {
	e := c.requestError(node, tenant, cost)
	if e != api.OK {
		return 0, e
	}
	// The window does not grow: the level must reach what is above it.
	goal := cost - c.gates[node].windows[tenant]
	return c.ticksTo(tenant, c.gates[node].levels[tenant], goal), api.OK
}

// ticksTo is how long a tenant's level takes to reach the goal.
func (c *Cluster) ticksTo(tenant int, level int, goal int) int {
	if level >= goal {
		return 0
	}
	rate := c.tenants[tenant].Rate
	if rate < 1 || goal > c.room(tenant) {
		return never
	}
	// Rounded up: in the last tick the level may grow above the goal.
	return (goal - level + rate - 1) / rate
}
