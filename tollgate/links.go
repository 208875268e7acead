package tollgate

import "tollgate/api"

// Link sets the mode of a link (P5).
func (c *Cluster) Link(a int, b int, mode int) api.Errno {
	if !isEnd(a) || !isEnd(b) || a == b || !isMode(mode) {
		return api.ErrLink
	}
	c.links[linkBetween(a, b)] = mode
	return api.OK
}

func isEnd(a int) bool { return isNode(a) || a == api.Arbiter }

func isMode(mode int) bool {
	return mode == api.Up || mode == api.Half || mode == api.Down
}

// linkBetween numbers the links of two different ends from 0 to 2, in either order of the ends.
func linkBetween(a int, b int) int { return a + b - 1 }

// message tells of a message whether it arrives and whether its answer does.
func (c *Cluster) message(from int, to int) (bool, bool) {
	mode := c.links[linkBetween(from, to)]
	if mode == api.Down {
		return false, false
	}
	if to != api.Arbiter && !c.gates[to].own.Up {
		return false, false
	}
	return true, mode == api.Up
}
