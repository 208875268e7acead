package tollgate

import "tollgate/api"

// Pass lets time go by (P4).
func (c *Cluster) Pass(ticks int) api.Errno {
	// Not now+ticks > MaxTime: that sum could overflow.
	if ticks < 0 || ticks > api.MaxTime-c.now {
		return api.ErrTime
	}
	c.now += ticks
	for i := range c.gates {
		for k := 0; k < c.count; k++ {
			c.gates[i].levels[k] = c.grown(k, c.gates[i].levels[k], ticks)
		}
	}
	return api.OK
}

// Time tells the time (P4).
func (c *Cluster) Time() int { return c.now }

// room is how high a tenant's level may stand: the window may pass on top of it.
func (c *Cluster) room(tenant int) int {
	return c.tenants[tenant].Burst - c.window
}

// grown is what a tenant's level becomes in so many ticks. MaxRate times MaxTime is far from overflow.
func (c *Cluster) grown(tenant int, level int, ticks int) int {
	room := c.room(tenant)
	level += c.tenants[tenant].Rate * ticks
	if level > room {
		return room
	}
	return level
}
