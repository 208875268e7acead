// Package tollgate: two gates that let by no more than may pass, whichever of them is at work: see DOC.md.
package tollgate

import "tollgate/api"

// Of the witness's holder: there is none.
const nobody = -1

// Cluster is two nodes and a witness.
type Cluster struct {
	lease   int
	window  int
	count   int // so many of the tenants are in use
	tenants [api.MaxTenants]api.Tenant
	now     int
	links   [3]int // their modes, by linkBetween
	gates   [2]gate
	witness api.Witness
}

// gate is what one of the two nodes keeps.
type gate struct {
	own     api.Node
	levels  [api.MaxTenants]int
	windows [api.MaxTenants]int
}

// New makes a cluster (P3).
func New(lease int, window int, tenants []api.Tenant) (*Cluster, api.Errno) {
	if lease < 1 || lease > api.MaxLease {
		return nil, api.ErrLease
	}
	if !areTenants(tenants) {
		return nil, api.ErrTenant
	}
	if !isWindow(window, tenants) {
		return nil, api.ErrWindow
	}
	c := &Cluster{lease: lease, window: window, count: len(tenants)}
	for i, t := range tenants {
		c.tenants[i] = t
	}
	for i := range c.gates {
		c.gates[i] = c.firstGate()
	}
	c.witness.Holder = nobody
	return c, api.OK
}

// firstGate is what a node keeps at first.
func (c *Cluster) firstGate() gate {
	g := gate{own: api.Node{Up: true}}
	for i := 0; i < c.count; i++ {
		g.levels[i] = c.room(i)
	}
	return g
}

func areTenants(tenants []api.Tenant) bool {
	if len(tenants) == 0 || len(tenants) > api.MaxTenants {
		return false
	}
	for _, t := range tenants {
		if t.Rate < 0 || t.Rate > api.MaxRate || t.Burst < 1 || t.Burst > api.MaxBurst {
			return false
		}
	}
	return true
}

func isWindow(window int, tenants []api.Tenant) bool {
	if window < 0 {
		return false
	}
	for _, t := range tenants {
		if window > t.Burst {
			return false
		}
	}
	return true
}
