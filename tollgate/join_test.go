package tollgate

import (
	"testing"

	"tollgate/api"
)

func TestP11WrongNodes(t *testing.T) {
	c := midway(t)
	wantWrongNodes(t, c, "P11: Join", c.Join)
}

func TestP11Elsewhere(t *testing.T) {
	c := newCluster(t, 10, 3, two())
	wantJoin(t, c, 0, api.Elsewhere)
	wantVerdict(t, c, 0, api.Granted)
	wantOK(t, c.Link(0, 1, api.Down))
	wantAsk(t, c, 0, 0, 2, api.Admit)
	wantOK(t, c.Link(0, 1, api.Up))
	wantJoin(t, c, 1, api.Elsewhere)
	wantOK(t, c.Pass(10))
	before := *c
	wantJoin(t, c, 0, api.Elsewhere)
	if *c != before {
		t.Errorf("P11: Elsewhere has changed the cluster: %+v, want %+v", *c, before)
	}
	wantNode(t, c, 0, api.Node{Up: true, Epoch: 1, Until: 10, Alone: true})
	wantVerdict(t, c, 0, api.Granted)
	wantOK(t, c.Pass(9))
	wantJoin(t, c, 0, api.Joined)
	wantOK(t, c.Crash(0))
	wantOK(t, c.Start(0))
	wantJoin(t, c, 0, api.Elsewhere)
}

// Rows: the link to the other is Up, Half, Down, or the other is not up; columns: the link to the witness is Up, Half, Down.
func TestP11EveryLink(t *testing.T) {
	type left struct {
		verdict int
		told    bool // the other has the levels
		solo    bool
	}
	half, none := left{api.Lost, true, true}, left{api.Lost, false, true}
	for row, columns := range [4][3]left{
		{{api.Joined, true, false}, {api.Lost, true, false}, half},
		{half, half, half},
		{none, none, none},
		{none, none, none},
	} {
		for mode, want := range columns {
			for node := range 2 {
				c := apart(t, node)
				if row == 3 {
					wantOK(t, c.Crash(1-node))
					wantOK(t, c.Link(0, 1, api.Up))
				} else {
					wantOK(t, c.Link(0, 1, row))
				}
				wantOK(t, c.Link(node, api.Arbiter, mode))
				wantJoin(t, c, node, want.verdict)
				wantNode(t, c, node, api.Node{Up: true, Epoch: 1, Until: 10})
				wantNode(t, c, 1-node, api.Node{Up: row != 3})
				wantWitness(t, c, api.Witness{Holder: node, Epoch: 1, Until: 10, Solo: want.solo})
				wantLevel(t, c, node, 0, 2, 3)
				wantLevel(t, c, node, 1, 1, 0)
				if want.told {
					wantLevel(t, c, 1-node, 0, 2, 0)
					wantLevel(t, c, 1-node, 1, 1, 0)
				} else {
					wantLevel(t, c, 1-node, 0, 7, 0)
					wantLevel(t, c, 1-node, 1, 2, 0)
				}
			}
		}
	}
}

// apart is a cluster in which a node acts alone and the other has not heard of what it has let by: levels of 2 and 1 against 7 and 2.
func apart(t *testing.T, node int) *Cluster {
	t.Helper()
	c := newCluster(t, 10, 3, two())
	wantVerdict(t, c, node, api.Granted)
	wantOK(t, c.Link(0, 1, api.Down))
	wantAsk(t, c, node, 0, 2, api.Admit)
	wantAsk(t, c, node, 1, 1, api.Admit)
	wantLevel(t, c, node, 0, 2, 3)
	wantLevel(t, c, node, 1, 1, 0)
	wantLevel(t, c, 1-node, 0, 7, 0)
	wantLevel(t, c, 1-node, 1, 2, 0)
	wantNode(t, c, node, api.Node{Up: true, Epoch: 1, Until: 10, Alone: true})
	wantWitness(t, c, api.Witness{Holder: node, Epoch: 1, Until: 10, Solo: true})
	return c
}

func TestP11AllTenants(t *testing.T) {
	tenants := []api.Tenant{{Rate: 1, Burst: 9}, {Rate: 0, Burst: 8}, {Rate: 2, Burst: 7}, {Rate: 0, Burst: 6}}
	for count := 1; count <= api.MaxTenants; count++ {
		c := newCluster(t, 10, 0, tenants[:count])
		wantVerdict(t, c, 1, api.Granted)
		wantOK(t, c.Link(0, 1, api.Down))
		for i := range count {
			wantAsk(t, c, 1, i, 5, api.Admit)
		}
		wantOK(t, c.Link(0, 1, api.Up))
		wantJoin(t, c, 1, api.Joined)
		for node := range 2 {
			for i := range count {
				wantLevel(t, c, node, i, 4-i, 0)
			}
		}
	}
}

// A level at the other may stand below the node's, too, after a Busy: it rises to the node's.
func TestP11ALowerLevelRises(t *testing.T) {
	c := newCluster(t, 10, 0, two())
	wantVerdict(t, c, 0, api.Granted)
	wantOK(t, c.Link(0, 1, api.Half))
	wantOK(t, c.Link(0, api.Arbiter, api.Down))
	wantAsk(t, c, 0, 1, 4, api.Busy)
	wantLevel(t, c, 0, 1, 5, 0)
	wantLevel(t, c, 1, 1, 1, 0)
	wantOK(t, c.Link(0, 1, api.Up))
	wantJoin(t, c, 0, api.Lost)
	wantLevel(t, c, 1, 1, 5, 0)
	wantOK(t, c.Link(0, api.Arbiter, api.Up))
	wantJoin(t, c, 0, api.Joined) // nobody was alone, and solo not noted
	wantWitness(t, c, api.Witness{Holder: 0, Epoch: 1, Until: 10})
}

func TestP11TheOtherMayTakeOver(t *testing.T) {
	for _, mode := range []int{api.Up, api.Half} {
		c := apart(t, 0)
		wantOK(t, c.Link(0, 1, api.Up))
		wantOK(t, c.Link(0, api.Arbiter, mode)) // Half: node 0 does not hear of it, and does not act alone all the same
		verdict := api.Joined
		if mode == api.Half {
			verdict = api.Lost
		}
		wantJoin(t, c, 0, verdict)
		wantVerdict(t, c, 1, api.Refused)
		wantAsk(t, c, 0, 1, 1, api.Admit)
		wantLevel(t, c, 1, 1, 0, 0)
		wantOK(t, c.Pass(10))
		wantVerdict(t, c, 1, api.Granted)
		wantAsk(t, c, 1, 1, 1, api.Deny)
	}
}

func TestP11NotAloneAfterALostJoin(t *testing.T) {
	c := apart(t, 0)
	wantJoin(t, c, 0, api.Lost)
	wantOK(t, c.Link(0, api.Arbiter, api.Down))
	wantAsk(t, c, 0, 1, 1, api.Busy) // it may no longer go on alone
	wantOK(t, c.Link(0, api.Arbiter, api.Up))
	wantOK(t, c.Pass(10))
	wantVerdict(t, c, 1, api.Refused)
	wantVerdict(t, c, 0, api.Granted)
	wantNode(t, c, 0, api.Node{Up: true, Epoch: 1, Until: 20, Alone: true})
}

// joined is P11 to the letter: what becomes of a cluster, and the verdict.
func joined(c Cluster, node int) (Cluster, int) {
	g, o := &c.gates[node], &c.gates[1-node]
	toOther, toWitness := c.links[0], c.links[1+node]
	if !g.own.Up || !(c.now < g.own.Until) {
		return c, api.Elsewhere
	}
	g.own.Alone = false
	if !o.own.Up || toOther == api.Down {
		return c, api.Lost
	}
	o.levels = g.levels
	if toOther == api.Half || toWitness == api.Down {
		return c, api.Lost
	}
	c.witness.Solo = false
	if toWitness == api.Half {
		return c, api.Lost
	}
	return c, api.Joined
}

func TestP11EveryArrangement(t *testing.T) {
	const choices = 2 * 3 * 3 * 3 * 2 * 2 * 2 * 2 * 3 * 3 * 3
	var verdicts [api.Busy + 1]int
	first := *newCluster(t, 10, 3, []api.Tenant{{Rate: 1, Burst: 10}, {Rate: 0, Burst: 10}})
	first.now = 17
	for all := range choices {
		code, c := all, first
		node := choice(&code, 2)
		for i := range c.links {
			c.links[i] = choice(&code, 3)
		}
		c.witness = api.Witness{Holder: node, Epoch: 4, Until: 18, Solo: choice(&code, 2) == 1}
		c.gates[1-node].own = api.Node{Up: choice(&code, 2) == 1, Epoch: 3, Until: 9, Alone: choice(&code, 2) == 1}
		c.gates[node].own = api.Node{Up: true, Epoch: 4, Alone: choice(&code, 2) == 1, Until: 16 + choice(&code, 3)}
		c.gates[node].levels = [api.MaxTenants]int{choice(&code, 3), choice(&code, 3)}
		c.gates[1-node].levels = [api.MaxTenants]int{1, 1}
		c.gates[node].windows = [api.MaxTenants]int{3, 2}
		c.gates[1-node].windows = [api.MaxTenants]int{1, 0}
		before := c
		want, verdict := joined(c, node)
		v, e := c.Join(node)
		if v != verdict || e != api.OK || c != want {
			t.Fatalf("P11: Join(%d) of %+v: %d, %d, %+v, want %d, %+v", node, before, v, e, c, verdict, want)
		}
		verdicts[v]++
	}
	for _, v := range []int{api.Lost, api.Joined, api.Elsewhere} {
		if verdicts[v] == 0 {
			t.Errorf("P11: no arrangement was answered %d", v)
		}
	}
}
