package tollgate

import (
	"testing"

	"tollgate/api"
)

func TestP9WrongNumbers(t *testing.T) {
	c := midway(t) // node 1 is not up
	before := *c
	for _, node := range odd {
		for _, tenant := range odd {
			for _, cost := range odd {
				want := wrongRequest(node, tenant, cost)
				if want == api.OK && node == 1 {
					want = api.ErrDown
				}
				v, e := c.Ask(node, tenant, cost)
				if e != want || e != api.OK && (v != 0 || *c != before) {
					t.Fatalf("P9: Ask(%d, %d, %d) = %d, %d, want %d", node, tenant, cost, v, e, want)
				}
				*c = before
			}
		}
	}
}

func TestP9Elsewhere(t *testing.T) {
	c := newCluster(t, 10, 3, two())
	wantAsk(t, c, 0, 0, 1, api.Elsewhere)
	wantVerdict(t, c, 0, api.Granted)
	wantAsk(t, c, 1, 0, 1, api.Elsewhere)
	wantOK(t, c.Pass(9))
	wantAsk(t, c, 0, 0, 1, api.Admit)
	wantOK(t, c.Pass(1))
	before := *c
	wantAsk(t, c, 0, 0, 1, api.Elsewhere) // a window of 3 is there, the lease is not
	wantAsk(t, c, 0, 0, api.MaxCost, api.Elsewhere)
	if *c != before {
		t.Errorf("P9: Elsewhere has changed the cluster: %+v, want %+v", *c, before)
	}
	wantVerdict(t, c, 0, api.Granted)
	wantOK(t, c.Crash(0))
	wantOK(t, c.Start(0))
	wantAsk(t, c, 0, 0, 1, api.Elsewhere)
}

func TestP9OutOfTheWindow(t *testing.T) {
	c := newCluster(t, 10, 3, two())
	wantVerdict(t, c, 0, api.Granted)
	wantAsk(t, c, 0, 0, 1, api.Admit)
	wantLevel(t, c, 0, 0, 3, 3)
	for end := range 2 {
		wantOK(t, c.Link(0, 1+end, api.Down)) // nobody is asked
	}
	wantAsk(t, c, 0, 0, 1, api.Admit)
	wantLevel(t, c, 0, 0, 3, 2)
	wantAsk(t, c, 0, 0, 2, api.Admit)
	wantLevel(t, c, 0, 0, 3, 0)
	wantLevel(t, c, 1, 0, 3, 0)
	wantAsk(t, c, 0, 0, 1, api.Busy)
}

// With a level of 4 and 1 left in the window, a cost of 2 is the greatest that leaves enough for a new window of 3.
func TestP9WithAndWithoutANewWindow(t *testing.T) {
	for _, s := range []struct {
		cost          int
		verdict       int
		level, window int
	}{
		{1, api.Admit, 4, 0},
		{2, api.Admit, 0, 3},
		{3, api.Admit, 2, 0},
		{5, api.Admit, 0, 0},
		{6, api.Deny, 4, 1},
		{api.MaxCost, api.Deny, 4, 1},
	} {
		c := newCluster(t, 10, 3, []api.Tenant{{Rate: 0, Burst: 11}})
		wantVerdict(t, c, 1, api.Granted)
		wantAsk(t, c, 1, 0, 1, api.Admit)
		wantAsk(t, c, 1, 0, 2, api.Admit)
		wantLevel(t, c, 1, 0, 4, 1)
		wantAsk(t, c, 1, 0, s.cost, s.verdict)
		wantLevel(t, c, 1, 0, s.level, s.window)
		wantLevel(t, c, 0, 0, s.level, 0)
	}
}

func TestP9TheWholeBurst(t *testing.T) {
	for _, window := range []int{0, 1, api.MaxBurst} {
		c := newCluster(t, 10, window, []api.Tenant{{Rate: 0, Burst: api.MaxBurst}})
		room := api.MaxBurst - window
		wantVerdict(t, c, 0, api.Granted)
		wantAsk(t, c, 0, 0, room+1, api.Deny)
		wantLevel(t, c, 0, 0, room, 0)
		if room == 0 {
			continue // no window can ever be charged for
		}
		wantAsk(t, c, 0, 0, room, api.Admit)
		wantLevel(t, c, 0, 0, 0, 0)
		wantLevel(t, c, 1, 0, 0, 0)
		wantAsk(t, c, 0, 0, 1, api.Deny)
	}
}

func TestP9WindowsAreOfOneEpoch(t *testing.T) {
	c := newCluster(t, 10, 3, two())
	wantVerdict(t, c, 0, api.Granted)
	wantAsk(t, c, 0, 0, 1, api.Admit)
	wantLevel(t, c, 0, 0, 3, 3)
	wantOK(t, c.Pass(10))
	wantVerdict(t, c, 1, api.Granted)
	wantAsk(t, c, 1, 0, 1, api.Admit)
	wantLevel(t, c, 0, 0, 3, 3)
	wantLevel(t, c, 1, 0, 3, 3)
	wantOK(t, c.Pass(10))
	wantVerdict(t, c, 0, api.Granted)
	wantLevel(t, c, 0, 0, 7, 0)
}

// behind is what stands behind an Ask of node 0 for a cost of 3, with a level of 5 at both nodes.
type behind struct {
	verdict     int
	level       int
	peer        int
	alone, solo bool
}

// Rows: the link to the other is Up, Half, Down, or the other is not up; columns: the link to the witness is Up, Half, Down.
func TestP10EveryLink(t *testing.T) {
	secured := behind{api.Admit, 2, 2, false, false}
	for row, columns := range [4][3]behind{
		{secured, secured, secured},
		{{api.Admit, 2, 2, true, true}, {api.Busy, 5, 2, false, true}, {api.Busy, 5, 2, false, false}},
		{{api.Admit, 2, 5, true, true}, {api.Busy, 5, 5, false, true}, {api.Busy, 5, 5, false, false}},
		{{api.Admit, 2, 5, true, true}, {api.Busy, 5, 5, false, true}, {api.Busy, 5, 5, false, false}},
	} {
		for mode, want := range columns {
			for node := range 2 {
				c := newCluster(t, 10, 0, two())
				wantVerdict(t, c, node, api.Granted)
				if row == 3 {
					wantOK(t, c.Crash(1-node))
				} else {
					wantOK(t, c.Link(0, 1, row))
				}
				wantOK(t, c.Link(node, api.Arbiter, mode))
				wantAsk(t, c, node, 1, 3, want.verdict)
				wantLevel(t, c, node, 1, want.level, 0)
				wantLevel(t, c, 1-node, 1, want.peer, 0)
				wantLevel(t, c, node, 0, 10, 0)
				wantLevel(t, c, 1-node, 0, 10, 0)
				wantNode(t, c, node, api.Node{Up: true, Epoch: 1, Until: 10, Alone: want.alone})
				wantNode(t, c, 1-node, api.Node{Up: row != 3})
				wantWitness(t, c, api.Witness{Holder: node, Epoch: 1, Until: 10, Solo: want.solo})
			}
		}
	}
}

func TestP10AloneAsksNobody(t *testing.T) {
	c := newCluster(t, 10, 0, two())
	wantVerdict(t, c, 0, api.Granted)
	wantOK(t, c.Link(0, 1, api.Down))
	wantAsk(t, c, 0, 0, 3, api.Admit)
	wantNode(t, c, 0, api.Node{Up: true, Epoch: 1, Until: 10, Alone: true})
	wantOK(t, c.Link(0, api.Arbiter, api.Down))
	wantAsk(t, c, 0, 0, 3, api.Admit)
	wantOK(t, c.Link(0, 1, api.Up)) // it could hear of it, and is not told
	wantAsk(t, c, 0, 0, 3, api.Admit)
	wantLevel(t, c, 0, 0, 1, 0)
	wantLevel(t, c, 1, 0, 10, 0)
}

func TestP10BusyCanBeSecuredLater(t *testing.T) {
	c := newCluster(t, 10, 0, two())
	wantVerdict(t, c, 0, api.Granted)
	wantOK(t, c.Link(0, 1, api.Half))
	wantOK(t, c.Link(0, api.Arbiter, api.Half))
	wantAsk(t, c, 0, 0, 6, api.Busy)
	wantLevel(t, c, 0, 0, 10, 0)
	wantLevel(t, c, 1, 0, 4, 0)
	wantAsk(t, c, 0, 0, 6, api.Busy)
	wantLevel(t, c, 1, 0, 0, 0) // 6 out of 4
	wantOK(t, c.Link(0, 1, api.Up))
	wantAsk(t, c, 0, 0, 6, api.Admit)
	wantLevel(t, c, 0, 0, 4, 0)
	wantLevel(t, c, 1, 0, 0, 0)
	wantNode(t, c, 0, api.Node{Up: true, Epoch: 1, Until: 10})
	wantWitness(t, c, api.Witness{Holder: 0, Epoch: 1, Until: 10, Solo: true})
	wantOK(t, c.Link(0, api.Arbiter, api.Up))
	wantVerdict(t, c, 0, api.Granted) // now it hears that solo is noted
	wantNode(t, c, 0, api.Node{Up: true, Epoch: 1, Until: 10, Alone: true})
}

func TestP10WhatIsChargedIsR(t *testing.T) {
	c := newCluster(t, 10, 3, []api.Tenant{{Rate: 1, Burst: 20}})
	wantVerdict(t, c, 0, api.Granted)
	wantOK(t, c.Link(0, 1, api.Half))
	wantOK(t, c.Link(0, api.Arbiter, api.Down))
	wantAsk(t, c, 0, 0, 4, api.Busy)
	wantLevel(t, c, 0, 0, 17, 0)
	wantLevel(t, c, 1, 0, 10, 0) // the new window with it
	wantAsk(t, c, 0, 0, 18, api.Deny)
	wantLevel(t, c, 1, 0, 10, 0)
}

// asked is P9 and P10 to the letter: what becomes of a cluster, and the verdict.
func asked(c Cluster, node int, tenant int, cost int) (Cluster, int) {
	before := c
	g, o := &c.gates[node], &c.gates[1-node]
	toOther, toWitness := c.links[0], c.links[1+node]
	if !g.own.Up || !(c.now < g.own.Until) {
		return before, api.Elsewhere
	}
	if !(g.windows[tenant] < cost) {
		g.windows[tenant] -= cost
		return c, api.Admit
	}
	n := cost - g.windows[tenant]
	m := n + c.window
	var r int
	switch {
	case g.levels[tenant] >= m:
		r = m
	case g.levels[tenant] >= n:
		r = n
	default:
		return before, api.Deny
	}
	if !g.own.Alone {
		if o.own.Up && toOther != api.Down {
			o.levels[tenant] = max(0, o.levels[tenant]-r)
		}
		if !o.own.Up || toOther != api.Up {
			c.witness.Solo = c.witness.Solo || toWitness != api.Down
			if toWitness != api.Up {
				return c, api.Busy
			}
			g.own.Alone = true
		}
	}
	g.levels[tenant] -= r
	g.windows[tenant] = r - n
	return c, api.Admit
}

// choice takes one of n out of a number that stands for many choices.
func choice(code *int, n int) int {
	taken := *code % n
	*code /= n
	return taken
}

func TestP9AndP10EveryArrangement(t *testing.T) {
	const choices = 2 * 2 * 3 * 3 * 2 * 2 * 2 * 3 * 8 * 4 * 3 * 12
	tenants := []api.Tenant{{Rate: 1, Burst: 10}, {Rate: 0, Burst: 10}}
	var verdicts [api.Busy + 1]int
	first := *newCluster(t, 10, 3, tenants)
	first.now = 17
	first.witness = api.Witness{Epoch: 4, Until: 18}
	for all := range choices {
		code, c := all, first
		node, tenant := choice(&code, 2), choice(&code, 2)
		c.links = [3]int{choice(&code, 3), api.Down, api.Down}
		c.links[1+node] = choice(&code, 3)
		c.witness.Holder, c.witness.Solo = node, choice(&code, 2) == 1
		c.gates[1-node].own.Up = choice(&code, 2) == 1
		c.gates[node].own = api.Node{Up: true, Epoch: 4, Alone: choice(&code, 2) == 1, Until: 16 + choice(&code, 3)}
		for i := range c.gates {
			c.gates[i].levels = [api.MaxTenants]int{6, 6}
			c.gates[i].windows = [api.MaxTenants]int{2, 2}
		}
		c.gates[node].levels[tenant] = choice(&code, 8)
		c.gates[node].windows[tenant] = choice(&code, 4)
		c.gates[1-node].levels[tenant] = 3 * choice(&code, 3)
		cost := 1 + choice(&code, 12)
		before := c
		want, verdict := asked(c, node, tenant, cost)
		v, e := c.Ask(node, tenant, cost)
		if v != verdict || e != api.OK || c != want {
			t.Fatalf("P9, P10: Ask(%d, %d, %d) of %+v: %d, %d, %+v, want %d, %+v", node, tenant, cost, before, v, e, c, verdict, want)
		}
		verdicts[v]++
	}
	for _, v := range []int{api.Elsewhere, api.Admit, api.Deny, api.Busy} {
		if verdicts[v] == 0 {
			t.Errorf("P9: no arrangement was answered %d", v)
		}
	}
}
