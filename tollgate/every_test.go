package tollgate

import (
	"testing"

	"tollgate/api"
)

// checked says that a call with an error has answered nothing else and changed nothing, and puts c back.
func checked(t *testing.T, c *Cluster, before Cluster, what string, e api.Errno, others ...int) {
	t.Helper()
	if e != api.OK {
		for _, o := range others {
			if o != 0 {
				t.Errorf("P1: %s: error %d, and %v", what, e, others)
			}
		}
		if *c != before {
			t.Errorf("P1: %s: error %d, and the cluster has changed", what, e)
		}
	}
	*c = before
}

// wantHarmless makes every call of a cluster at odd numbers.
func wantHarmless(t *testing.T, c *Cluster) {
	t.Helper()
	before := *c
	for _, a := range odd {
		checked(t, c, before, "Pass", c.Pass(a))
		checked(t, c, before, "Crash", c.Crash(a))
		checked(t, c, before, "Start", c.Start(a))
		v, e := c.Campaign(a)
		checked(t, c, before, "Campaign", e, v)
		v, e = c.Join(a)
		checked(t, c, before, "Join", e, v)
		n, e := c.Node(a)
		checked(t, c, before, "Node", e, n.Epoch, n.Until)
		if e != api.OK && n != (api.Node{}) {
			t.Errorf("P1: Node(%d) = %+v, %d", a, n, e)
		}
		for _, b := range odd {
			l, w, e := c.Level(a, b)
			checked(t, c, before, "Level", e, l, w)
			for _, m := range odd {
				checked(t, c, before, "Link", c.Link(a, b, m))
				v, e = c.Ask(a, b, m)
				checked(t, c, before, "Ask", e, v)
				v, e = c.Wait(a, b, m)
				checked(t, c, before, "Wait", e, v)
			}
		}
	}
}

func TestP1NoNumberDoesHarm(t *testing.T) {
	wantHarmless(t, midway(t))
}

func TestP1NewAtAllNumbers(t *testing.T) {
	for _, a := range odd {
		for _, b := range odd {
			for _, r := range odd {
				for _, u := range odd {
					c, e := New(a, b, []api.Tenant{{Rate: r, Burst: u}})
					if (c == nil) != (e != api.OK) {
						t.Fatalf("P1: New(%d, %d, {%d, %d}) = %v, %d", a, b, r, u, c, e)
					}
				}
			}
		}
	}
	for n := range 10 {
		_, e := New(1, 0, make([]api.Tenant, n))
		wantError(t, "P1: New of tenants without a Burst", e, api.ErrTenant)
	}
}

func TestP1TheErrorNamedFirst(t *testing.T) {
	_, e := New(0, -1, nil)
	wantError(t, "P1: New: lease before tenants and window", e, api.ErrLease)
	_, e = New(1, -1, nil)
	wantError(t, "P1: New: tenants before window", e, api.ErrTenant)
	_, e = New(0, -1, two())
	wantError(t, "P1: New: lease before window", e, api.ErrLease)
	_, e = New(1, 7, []api.Tenant{{Rate: 1, Burst: 6}, {Rate: -1, Burst: 9}})
	wantError(t, "P1: New: a later tenant before window", e, api.ErrTenant)
	c := midway(t)
	_, _, e = c.Level(2, 2)
	wantError(t, "P1: Level: node before tenant", e, api.ErrNode)
	_, e = c.Ask(2, 2, 0)
	wantError(t, "P1: Ask: node before tenant and cost", e, api.ErrNode)
	_, e = c.Ask(1, 2, 0)
	wantError(t, "P1: Ask: tenant before cost and a node that is not up", e, api.ErrTenant)
	_, e = c.Ask(1, 1, 0)
	wantError(t, "P1: Ask: cost before a node that is not up", e, api.ErrCost)
	_, e = c.Wait(2, 2, 0)
	wantError(t, "P1: Wait: node before tenant and cost", e, api.ErrNode)
	_, e = c.Wait(1, 2, 0)
	wantError(t, "P1: Wait: tenant before cost", e, api.ErrTenant)
}

func TestP2WhatIsHandedInStays(t *testing.T) {
	whole := []api.Tenant{{Rate: 2, Burst: 10}, {Rate: 0, Burst: 5}, {Rate: 7, Burst: 7}, {Rate: -8, Burst: -8}}
	list := whole[:2]
	c := newCluster(t, 10, 3, list)
	wantOK(t, c.Pass(5))
	wantVerdict(t, c, 0, api.Granted)
	for i, want := range []api.Tenant{{Rate: 2, Burst: 10}, {Rate: 0, Burst: 5}, {Rate: 7, Burst: 7}, {Rate: -8, Burst: -8}} {
		if whole[i] != want {
			t.Errorf("P2: tenant %d of the list has become %v", i, whole[i])
		}
	}
	for i := range whole {
		whole[i] = api.Tenant{Rate: 1000, Burst: 1000}
	}
	c.gates[0].levels[0] = 0
	wantOK(t, c.Pass(1))
	wantLevel(t, c, 0, 0, 2, 0)
	wantOK(t, c.Pass(100))
	wantLevel(t, c, 0, 0, 7, 0)
	wantLevel(t, c, 0, 1, 2, 0)
	_, _, e := c.Level(0, 2)
	wantError(t, "P2: a tenant of the spare room", e, api.ErrTenant)
}

// scrambled is a row of numbers without a pattern, always the same for one seed.
func scrambled(seed uint64, count int) []int {
	var row []int
	for range count {
		seed = seed*6364136223846793005 + 1442695040888963407
		row = append(row, int(seed>>33))
	}
	return row
}

// step makes one of some calls, by its number, and answers what it was answered: a verdict, ticks, an error.
func step(c *Cluster, number int) [3]int {
	code := number
	kind, node := choice(&code, 24), choice(&code, 2)
	var v, ticks int
	var e api.Errno
	switch {
	case kind < 2:
		e = c.Pass(choice(&code, 5) - 1)
	case kind < 4:
		modes := [6]int{api.Up, api.Up, api.Up, api.Half, api.Down, api.Down + 1}
		e = c.Link(node, choice(&code, 3), modes[choice(&code, 6)])
	case kind < 5:
		e = c.Crash(node)
	case kind < 8:
		e = c.Start(node)
	case kind < 12:
		v, e = c.Campaign(node)
	case kind < 14:
		v, e = c.Join(node)
	case kind < 16:
		ticks, e = c.Wait(node, choice(&code, 3), choice(&code, 14))
	default:
		v, e = c.Ask(node, choice(&code, 3), choice(&code, 6))
	}
	return [3]int{v, ticks, int(e)}
}

func TestP2ClustersAreApart(t *testing.T) {
	alone := newCluster(t, 10, 3, two())
	numbers := scrambled(1, 2000)
	var answers [][3]int
	var verdicts [api.Busy + 1]int
	for i, n := range numbers {
		answers = append(answers, step(alone, n))
		verdicts[answers[i][0]]++
	}
	for v, times := range verdicts {
		if times == 0 {
			t.Errorf("the calls have never been answered %d: %v", v, verdicts)
		}
	}
	first := newCluster(t, 10, 3, two())
	second := newCluster(t, 4, 0, two()[:1])
	others := scrambled(2, len(numbers))
	for i, n := range numbers {
		step(second, others[i])
		got := step(first, n)
		if got != answers[i] {
			t.Fatalf("P2: call %d was answered %v beside another cluster, %v alone", i, got, answers[i])
		}
	}
	if *first != *alone {
		t.Error("P2: the same calls have made two different clusters")
	}
}

func TestP2TellingChangesNothing(t *testing.T) {
	c := midway(t)
	before := *c
	c.Time()
	c.Witness()
	c.Save()
	for node := range 2 {
		c.Node(node)
		for tenant := range 2 {
			c.Level(node, tenant)
			for cost := range 15 { // 0, more, and -1
				c.Wait(node, tenant, cost)
			}
		}
	}
	if *c != before {
		t.Error("P2: a call that tells has changed the cluster")
	}
	w := c.Witness()
	w.Holder = 9
	n, _ := c.Node(0)
	n.Epoch = 9
	if *c != before {
		t.Error("P2: what was told is the cluster's own")
	}
}
