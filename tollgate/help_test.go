package tollgate

import (
	"math"
	"testing"

	"tollgate/api"
)

// odd are numbers at and around every limit, and at the ends of what an int holds.
var odd = []int{
	math.MinInt, math.MinInt + 1, -api.MaxTime, -2, -1, 0, 1, 2, 3, 4, 5,
	api.MaxRate, api.MaxRate + 1, api.MaxBurst, api.MaxBurst + 1, api.MaxCost, api.MaxCost + 1,
	api.MaxTime - 1, api.MaxTime, api.MaxTime + 1, 1 << 62, math.MaxInt - 1, math.MaxInt,
}

func two() []api.Tenant {
	return []api.Tenant{{Rate: 2, Burst: 10}, {Rate: 0, Burst: 5}}
}

func newCluster(t *testing.T, lease int, window int, tenants []api.Tenant) *Cluster {
	t.Helper()
	c, e := New(lease, window, tenants)
	if c == nil || e != api.OK {
		t.Fatalf("New(%d, %d, %v) = %v, %d", lease, window, tenants, c, e)
	}
	return c
}

func wantOK(t *testing.T, e api.Errno) {
	t.Helper()
	if e != api.OK {
		t.Fatalf("error %d", e)
	}
}

func wantError(t *testing.T, what string, e api.Errno, want api.Errno) {
	t.Helper()
	if e != want {
		t.Errorf("%s: error %d, want %d", what, e, want)
	}
}

func wantVerdict(t *testing.T, c *Cluster, node int, want int) {
	t.Helper()
	v, e := c.Campaign(node)
	if v != want || e != api.OK {
		t.Fatalf("Campaign(%d) = %d, %d, want %d", node, v, e, want)
	}
}

func wantAsk(t *testing.T, c *Cluster, node int, tenant int, cost int, want int) {
	t.Helper()
	v, e := c.Ask(node, tenant, cost)
	if v != want || e != api.OK {
		t.Fatalf("Ask(%d, %d, %d) = %d, %d, want %d", node, tenant, cost, v, e, want)
	}
}

func wantJoin(t *testing.T, c *Cluster, node int, want int) {
	t.Helper()
	v, e := c.Join(node)
	if v != want || e != api.OK {
		t.Fatalf("Join(%d) = %d, %d, want %d", node, v, e, want)
	}
}

func wantWait(t *testing.T, c *Cluster, node int, tenant int, cost int, want int) {
	t.Helper()
	ticks, e := c.Wait(node, tenant, cost)
	if ticks != want || e != api.OK {
		t.Fatalf("Wait(%d, %d, %d) = %d, %d, want %d", node, tenant, cost, ticks, e, want)
	}
}

func wantWitness(t *testing.T, c *Cluster, want api.Witness) {
	t.Helper()
	if w := c.Witness(); w != want {
		t.Fatalf("Witness() = %+v, want %+v", w, want)
	}
}

func wantNode(t *testing.T, c *Cluster, node int, want api.Node) {
	t.Helper()
	if n, e := c.Node(node); n != want || e != api.OK {
		t.Fatalf("Node(%d) = %+v, %d, want %+v", node, n, e, want)
	}
}

func wantLevel(t *testing.T, c *Cluster, node int, tenant int, level int, window int) {
	t.Helper()
	if l, w, e := c.Level(node, tenant); l != level || w != window || e != api.OK {
		t.Fatalf("Level(%d, %d) = %d, %d, %d, want %d, %d", node, tenant, l, w, e, level, window)
	}
}

// again is what Load makes of what Save writes of c: a cluster like it.
func again(t *testing.T, c *Cluster) *Cluster {
	t.Helper()
	before := *c
	text := c.Save()
	loaded, e := Load(text)
	if loaded == nil || e != api.OK {
		t.Fatalf("P15: Load(%q) = %v, %d", text, loaded, e)
	}
	if *loaded != before {
		t.Fatalf("P15: loaded of %q: %+v, want %+v", text, *loaded, before)
	}
	if second, third := c.Save(), loaded.Save(); second != text || third != text || *c != before {
		t.Fatalf("P2, P15: saved three times: %q, %q, and of the one that was loaded %q", text, second, third)
	}
	return loaded
}

// midway is a cluster in which nearly nothing is as at first: node 0 has a lease and acts alone, node 1 is down.
func midway(t *testing.T) *Cluster {
	t.Helper()
	c := newCluster(t, 10, 3, two())
	wantOK(t, c.Pass(7))
	wantVerdict(t, c, 1, api.Granted)
	wantOK(t, c.Pass(10))
	wantVerdict(t, c, 0, api.Granted)
	wantOK(t, c.Link(0, 1, api.Half))
	wantOK(t, c.Crash(1))
	c.witness.Solo = true
	c.gates[0].own.Alone = true
	c.gates[0].levels = [api.MaxTenants]int{4, 1}
	c.gates[0].windows = [api.MaxTenants]int{2, 3}
	c.gates[1].levels = [api.MaxTenants]int{5, 2}
	return c
}

// wantWrongNodes holds a call that asks for a node that is up to its errors, in a cluster like midway, where node 1 is not.
func wantWrongNodes(t *testing.T, c *Cluster, what string, call func(node int) (int, api.Errno)) {
	t.Helper()
	before := *c
	for _, node := range odd {
		want := api.ErrNode
		switch node {
		case 0:
			continue
		case 1:
			want = api.ErrDown
		}
		v, e := call(node)
		if v != 0 || e != want || *c != before {
			t.Errorf("%s(%d) = %d, %d, want error %d; %+v, want %+v", what, node, v, e, want, *c, before)
		}
	}
}

// wrongRequest is the error of a request to a cluster of two tenants, whether the node is up or not.
func wrongRequest(node int, tenant int, cost int) api.Errno {
	switch {
	case !isAny(node, 0, 1):
		return api.ErrNode
	case !isAny(tenant, 0, 1):
		return api.ErrTenant
	case cost < 1 || cost > 2000000:
		return api.ErrCost
	}
	return api.OK
}
