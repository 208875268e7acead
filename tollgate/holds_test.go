package tollgate

import (
	"testing"

	"tollgate/api"
)

// played is a cluster, and how much more P13 lets it admit of each tenant at this very time.
type played struct {
	c    Cluster
	left [api.MaxTenants]int
}

func newPlayed(t *testing.T, lease int, window int, tenants []api.Tenant) played {
	t.Helper()
	p := played{c: *newCluster(t, lease, window, tenants)}
	for i, tenant := range tenants {
		p.left[i] = tenant.Burst
	}
	return p
}

func (p *played) tick() { p.pass(1) }

// pass lets time go by: P13 lets by the Rate more with each tick, and never more than the Burst at once.
func (p *played) pass(ticks int) {
	if p.c.Pass(ticks) != api.OK {
		return
	}
	for i, tenant := range p.c.tenants {
		p.left[i] = min(tenant.Burst, p.left[i]+ticks*tenant.Rate)
	}
}

func (p *played) ask(node int, tenant int, cost int) int {
	v, _ := p.c.Ask(node, tenant, cost)
	if v == api.Admit {
		p.left[tenant] -= cost
	}
	return v
}

// wantHeld says that no more has been let by than may, and that one gate is at work at a time.
func (p *played) wantHeld(t *testing.T, before *played, number int) {
	t.Helper()
	for i, left := range p.left {
		if left < 0 {
			t.Fatalf("P13: call %d of %+v lets by too much of tenant %d", number, *before, i)
		}
	}
	if broken := brokenRule(&p.c); broken != "" {
		t.Fatalf("P14: call %d of %+v: %s", number, *before, broken)
	}
}

// everyCall is every call that could change a cluster of such tenants, but for those that are as good as several of these.
func everyCall(tenants []api.Tenant) []func(p *played) {
	calls := []func(p *played){(*played).tick}
	for _, ends := range [][2]int{{0, 1}, {0, 2}, {1, 2}} {
		for mode := range 3 {
			calls = append(calls, func(p *played) { p.c.Link(ends[0], ends[1], mode) })
		}
	}
	for node := range 2 {
		calls = append(calls,
			func(p *played) { p.c.Crash(node) },
			func(p *played) { p.c.Start(node) },
			func(p *played) { p.c.Campaign(node) },
			func(p *played) { p.c.Join(node) },
		)
		for i, tenant := range tenants {
			for cost := 1; cost <= tenant.Burst+1; cost++ {
				calls = append(calls, func(p *played) { p.ask(node, i, cost) })
			}
		}
	}
	return calls
}

// sinceNow is the same cluster, as far as answers and promises go, told as if the time were that of one lease and the epoch 1 at most: so they are few enough to look at each.
func sinceNow(c Cluster) Cluster {
	now := c.lease
	for i := range c.gates {
		own := &c.gates[i].own
		own.Until = now + max(0, own.Until-c.now)
		if own.Until == now {
			own.Until = 0
		}
		if own.Epoch != c.witness.Epoch {
			own.Epoch = 0
		}
		own.Epoch = min(1, own.Epoch)
	}
	if c.witness.Holder != nobody {
		c.witness.Until = now + max(0, c.witness.Until-c.now)
	}
	c.witness.Epoch = min(1, c.witness.Epoch)
	c.now = now
	return c
}

// brokenRule names what P14 forbids and c does.
func brokenRule(c *Cluster) string {
	leases := 0
	for i := range 2 {
		n, _ := c.Node(i)
		w := c.Witness()
		if !n.Up || c.Time() >= n.Until {
			continue
		}
		leases++
		if n.Epoch != w.Epoch || n.Until > w.Until {
			return "a lease is not the witness's"
		}
		if n.Alone && (w.Holder != i || !w.Solo) {
			return "a node acts alone and the witness has not noted it"
		}
	}
	if leases > 1 {
		return "both nodes have a lease"
	}
	return ""
}

// playAll makes every call in every cluster that calls can lead to, each of them saved and loaded first, and answers how many of those there are.
func playAll(t *testing.T, lease int, window int, tenants []api.Tenant) int {
	t.Helper()
	start := newPlayed(t, lease, window, tenants)
	calls := everyCall(tenants)
	seen := map[played]bool{start: true}
	for todo := []played{start}; len(todo) > 0; {
		p := todo[len(todo)-1]
		todo = todo[:len(todo)-1]
		for number, call := range calls {
			after := p
			call(&after)
			after.wantHeld(t, &p, number)
			behind := played{sinceNow(after.c), after.left}
			if seen[behind] {
				continue
			}
			seen[behind] = true
			behind.c = sinceNow(*again(t, &after.c))
			todo = append(todo, behind)
		}
	}
	return len(seen)
}

func TestP13AndP14WhateverIsCalled(t *testing.T) {
	for _, s := range []struct {
		lease, window int
		tenants       []api.Tenant
	}{
		{2, 0, []api.Tenant{{Rate: 1, Burst: 2}}},
		{2, 1, []api.Tenant{{Rate: 1, Burst: 3}}},
		{1, 0, []api.Tenant{{Rate: 1, Burst: 1}, {Rate: 0, Burst: 1}}},
	} {
		count := playAll(t, s.lease, s.window, s.tenants)
		if count < 10000 {
			t.Errorf("P13, P14: %+v: the calls lead to no more than %d clusters", s, count)
		}
	}
}

// longStep makes a call by number that suits clusters of great numbers, too, and answers a verdict, or -1.
func (p *played) longStep(number int) int {
	code := number
	kind, node := choice(&code, 32), choice(&code, 2)
	v := -1
	switch {
	case kind < 3:
		p.pass(choice(&code, 2*p.c.lease+1) / (1 + choice(&code, 9)))
	case kind < 6:
		modes := [5]int{api.Up, api.Up, api.Up, api.Half, api.Down}
		p.c.Link(node, 1-node+choice(&code, 2)*(1+node), modes[choice(&code, 5)])
	case kind < 7:
		p.c.Crash(node)
	case kind < 9:
		p.c.Start(node)
	case kind < 14:
		v, _ = p.c.Campaign(node)
	case kind < 16:
		v, _ = p.c.Join(node)
	default:
		tenant := choice(&code, p.c.count)
		burst := p.c.tenants[tenant].Burst
		costs := [7]int{1, p.c.window, p.c.window + 1, burst - p.c.window, burst, burst/3 + 1, burst/20 + 1}
		v = p.ask(node, tenant, costs[choice(&code, 7)])
	}
	return v
}

func TestP13AndP14OnALongWay(t *testing.T) {
	var verdicts [api.Busy + 1]int
	for seed, s := range []struct {
		lease, window int
		tenants       []api.Tenant
	}{
		{10, 3, two()},
		{1, 0, []api.Tenant{{Rate: 1, Burst: 9}, {Rate: 3, Burst: 4}, {Rate: 0, Burst: 50}}},
		{4, 5, []api.Tenant{{Rate: 1, Burst: 20}, {Rate: 9, Burst: 11}, {Rate: 1, Burst: 6}, {Rate: 2, Burst: 5}}},
		{api.MaxLease, 1000, []api.Tenant{{Rate: api.MaxRate, Burst: api.MaxBurst}, {Rate: 1, Burst: api.MaxBurst}, {Rate: 1, Burst: 1000}, {Rate: 7, Burst: 30000}}},
	} {
		p := newPlayed(t, s.lease, s.window, s.tenants)
		for i, number := range scrambled(uint64(seed), 40000) {
			before := p
			v := p.longStep(number)
			if v >= 0 {
				verdicts[v]++
			}
			p.wantHeld(t, &before, number)
			if i%5 == 0 {
				p.c = *again(t, &p.c)
			}
		}
	}
	for v, times := range verdicts {
		if times < 100 {
			t.Errorf("the calls have been answered %d no more than %d times", v, times)
		}
	}
}
