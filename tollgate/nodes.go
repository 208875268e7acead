package tollgate

import "tollgate/api"

// Crash takes a node down (P6).
func (c *Cluster) Crash(node int) api.Errno {
	e := c.upError(node)
	if e != api.OK {
		return e
	}
	c.gates[node].own = api.Node{}
	c.gates[node].windows = [api.MaxTenants]int{}
	return api.OK
}

// Start brings a node up (P6).
func (c *Cluster) Start(node int) api.Errno {
	if !isNode(node) {
		return api.ErrNode
	}
	if c.gates[node].own.Up {
		return api.ErrUp
	}
	c.gates[node].own.Up = true
	return api.OK
}

// Node tells what a node keeps of its lease (P7).
func (c *Cluster) Node(node int) (api.Node, api.Errno) {
	if !isNode(node) {
		return api.Node{}, api.ErrNode
	}
	return c.gates[node].own, api.OK
}

// Level tells a node's level and window for a tenant (P7).
func (c *Cluster) Level(node int, tenant int) (int, int, api.Errno) {
	if !isNode(node) {
		return 0, 0, api.ErrNode
	}
	if !c.hasTenant(tenant) {
		return 0, 0, api.ErrTenant
	}
	return c.gates[node].levels[tenant], c.gates[node].windows[tenant], api.OK
}

// upError is what is wrong with a call that asks for a node that is up.
func (c *Cluster) upError(node int) api.Errno {
	if !isNode(node) {
		return api.ErrNode
	}
	if !c.gates[node].own.Up {
		return api.ErrDown
	}
	return api.OK
}

func isNode(node int) bool { return node == 0 || node == 1 }

func other(node int) int { return 1 - node }

func (c *Cluster) hasTenant(tenant int) bool { return tenant >= 0 && tenant < c.count }
