package tollgate

import (
	"testing"

	"tollgate/api"
)

// played is a cluster, and how much more P13 lets it admit of each tenant at this very time.
type played struct {
	c    Cluster
	left [api.MaxTenants]int
}

// tick lets one tick go by: P13 lets by the Rate more, and never more than the Burst at once.
func (p *played) tick() {
	p.c.Pass(1)
	for i, tenant := range p.c.tenants {
		p.left[i] = min(tenant.Burst, p.left[i]+tenant.Rate)
	}
}

func (p *played) ask(node int, tenant int, cost int) {
	v, _ := p.c.Ask(node, tenant, cost)
	if v == api.Admit {
		p.left[tenant] -= cost
	}
}

// everyCall is every call that could change a cluster of such tenants, but for those that are as good as several of these.
func everyCall(tenants []api.Tenant) []func(p *played) {
	calls := []func(p *played){(*played).tick}
	for _, ends := range [][2]int{{0, 1}, {0, 2}, {1, 2}} {
		for mode := range 3 {
			calls = append(calls, func(p *played) { p.c.Link(ends[0], ends[1], mode) })
		}
	}
	for node := range 2 {
		calls = append(calls,
			func(p *played) { p.c.Crash(node) },
			func(p *played) { p.c.Start(node) },
			func(p *played) { p.c.Campaign(node) },
			func(p *played) { p.c.Join(node) },
		)
		for i, tenant := range tenants {
			for cost := 1; cost <= tenant.Burst+1; cost++ {
				calls = append(calls, func(p *played) { p.ask(node, i, cost) })
			}
		}
	}
	return calls
}

// sinceNow is the same cluster, as far as answers and promises go, told from the time 0 and the epoch 1 on: so they are few enough to look at each.
func sinceNow(c Cluster) Cluster {
	for i := range c.gates {
		own := &c.gates[i].own
		own.Until = max(0, own.Until-c.now)
		if own.Epoch != c.witness.Epoch {
			own.Epoch = 0
		}
		own.Epoch = min(1, own.Epoch)
	}
	c.witness.Until = max(0, c.witness.Until-c.now)
	c.witness.Epoch = min(1, c.witness.Epoch)
	c.now = 0
	return c
}

// brokenRule names what P14 forbids and c does.
func brokenRule(c *Cluster) string {
	leases := 0
	for i := range 2 {
		n, _ := c.Node(i)
		w := c.Witness()
		if !n.Up || c.Time() >= n.Until {
			continue
		}
		leases++
		if n.Epoch != w.Epoch || n.Until > w.Until {
			return "a lease is not the witness's"
		}
		if n.Alone && (w.Holder != i || !w.Solo) {
			return "a node acts alone and the witness has not noted it"
		}
	}
	if leases > 1 {
		return "both nodes have a lease"
	}
	return ""
}

// playAll makes every call in every cluster that calls can lead to, and answers how many of those there are.
func playAll(t *testing.T, lease int, window int, tenants []api.Tenant) int {
	t.Helper()
	start := played{c: *newCluster(t, lease, window, tenants)}
	for i, tenant := range tenants {
		start.left[i] = tenant.Burst
	}
	calls := everyCall(tenants)
	seen := map[played]bool{start: true}
	for todo := []played{start}; len(todo) > 0; {
		p := todo[len(todo)-1]
		todo = todo[:len(todo)-1]
		for number, call := range calls {
			after := p
			call(&after)
			if min(after.left[0], after.left[1]) < 0 {
				t.Fatalf("P13: call %d of %+v lets by too much", number, p)
			}
			if broken := brokenRule(&after.c); broken != "" {
				t.Fatalf("P14: call %d of %+v: %s", number, p, broken)
			}
			after.c = sinceNow(after.c)
			if !seen[after] {
				seen[after] = true
				todo = append(todo, after)
			}
		}
	}
	return len(seen)
}

func TestP13AndP14WhateverIsCalled(t *testing.T) {
	for _, s := range []struct {
		lease, window int
		tenants       []api.Tenant
	}{
		{2, 0, []api.Tenant{{Rate: 1, Burst: 2}}},
		{2, 1, []api.Tenant{{Rate: 1, Burst: 3}}},
		{1, 0, []api.Tenant{{Rate: 1, Burst: 1}, {Rate: 0, Burst: 1}}},
	} {
		count := playAll(t, s.lease, s.window, s.tenants)
		if count < 10000 {
			t.Errorf("P13, P14: %+v: the calls lead to no more than %d clusters", s, count)
		}
	}
}
