package tollgate

import (
	"testing"

	"tollgate/api"
)

func TestP12WrongNumbers(t *testing.T) {
	c := midway(t) // node 1 is not up, and that is no error
	before := *c
	for _, node := range odd {
		for _, tenant := range odd {
			for _, cost := range odd {
				want := wrongRequest(node, tenant, cost)
				v, e := c.Wait(node, tenant, cost)
				if e != want || e != api.OK && v != 0 || *c != before {
					t.Fatalf("P12: Wait(%d, %d, %d) = %d, %d, want %d", node, tenant, cost, v, e, want)
				}
			}
		}
	}
}

func TestP12BeforeAndAfterARequest(t *testing.T) {
	c := newCluster(t, 10, 3, []api.Tenant{{Rate: 3, Burst: 12}, {Rate: 0, Burst: 12}})
	for node := range 2 {
		wantWait(t, c, node, 0, 9, 0)
		wantWait(t, c, node, 0, 10, -1) // there is no window yet
	}
	wantVerdict(t, c, 0, api.Granted)
	for tenant := range 2 {
		wantAsk(t, c, 0, tenant, 4, api.Admit)
		wantLevel(t, c, 0, tenant, 2, 3)
	}
	for i, ticks := range []int{0, 0, 0, 0, 0, 1, 1, 1, 2, 2, 2, 3, -1, -1} {
		wantWait(t, c, 0, 0, 1+i, ticks)
	}
	wantWait(t, c, 0, 1, 5, 0)
	wantWait(t, c, 0, 1, 6, -1) // nothing grows
	wantWait(t, c, 0, 1, 12, -1)
	wantWait(t, c, 0, 0, api.MaxCost, -1)
	wantWait(t, c, 1, 0, 2, 0)
	wantWait(t, c, 1, 0, 3, 1) // node 1 has no window
	wantWait(t, c, 1, 0, 9, 3)
	wantWait(t, c, 1, 0, 10, -1)
	wantWait(t, c, 1, 1, 3, -1)
}

func TestP12WithoutALeaseAndNotUp(t *testing.T) {
	c := newCluster(t, 10, 3, []api.Tenant{{Rate: 1, Burst: 103}})
	wantVerdict(t, c, 0, api.Granted)
	wantAsk(t, c, 0, 0, 97, api.Admit)
	wantLevel(t, c, 0, 0, 0, 3)
	wantOK(t, c.Pass(10)) // the lease is over, the window is still kept
	wantWait(t, c, 0, 0, 13, 0)
	wantWait(t, c, 0, 0, 14, 1)
	wantWait(t, c, 0, 0, 103, 90)
	wantOK(t, c.Crash(0))
	wantWait(t, c, 0, 0, 10, 0)
	wantWait(t, c, 0, 0, 13, 3)
	wantWait(t, c, 0, 0, 100, 90)
	wantWait(t, c, 0, 0, 101, -1)
	wantOK(t, c.Pass(3))
	wantWait(t, c, 0, 0, 13, 0)
}

func TestP12TheGreatestNumbers(t *testing.T) {
	c := newCluster(t, 10, 0, []api.Tenant{{Rate: 1, Burst: api.MaxBurst}, {Rate: api.MaxRate, Burst: api.MaxBurst}})
	wantVerdict(t, c, 0, api.Granted)
	for tenant, ticks := range []int{api.MaxBurst, api.MaxBurst / api.MaxRate} {
		wantAsk(t, c, 0, tenant, api.MaxBurst, api.Admit)
		wantWait(t, c, 0, tenant, 1, 1)
		wantWait(t, c, 0, tenant, api.MaxBurst, ticks)
		wantWait(t, c, 0, tenant, api.MaxBurst+1, -1)
		wantWait(t, c, 0, tenant, api.MaxCost, -1)
	}
	wantWait(t, c, 0, 1, api.MaxBurst-api.MaxRate, 999)
	wantWait(t, c, 0, 1, api.MaxBurst-api.MaxRate+1, 1000)
	whole := newCluster(t, 10, api.MaxBurst, []api.Tenant{{Rate: api.MaxRate, Burst: api.MaxBurst}})
	wantWait(t, whole, 0, 0, 1, -1) // there is no room
}

// How far Pass can still go is not asked: P12 speaks of time alone.
func TestP12AtTheEndOfTime(t *testing.T) {
	c := newCluster(t, 10, 0, two())
	wantOK(t, c.Pass(api.MaxTime))
	wantVerdict(t, c, 0, api.Granted)
	wantAsk(t, c, 0, 0, 10, api.Admit)
	wantWait(t, c, 0, 0, 10, 5)
	wantWait(t, c, 0, 0, 11, -1)
}

// waited is P12 to the letter: it lets the ticks go by one after another, for as long as a level could still grow.
func waited(c Cluster, node int, tenant int, cost int) int {
	for ticks := range c.tenants[tenant].Burst + 1 {
		if c.gates[node].levels[tenant]+c.gates[node].windows[tenant] >= cost {
			return ticks
		}
		c.Pass(1)
	}
	return -1
}

func TestP12EveryArrangement(t *testing.T) {
	const choices = 2 * 2 * 2 * 6 * 4 * 10 * 13 * 16
	var zero, more, none int
	for all := range choices {
		code := all
		node, tenant, up := choice(&code, 2), choice(&code, 2), choice(&code, 2)
		tenants := []api.Tenant{{Rate: 1, Burst: 12}, {Rate: 1, Burst: 12}}
		tenants[tenant].Rate = choice(&code, 6)
		window := choice(&code, 4)
		tenants[tenant].Burst = 3 + choice(&code, 10)
		level, cost := choice(&code, 13), 1+choice(&code, 16)
		if level > tenants[tenant].Burst-window {
			continue
		}
		c := *newCluster(t, 10, window, tenants)
		c.gates[node].own.Up = up == 1
		c.gates[node].levels[tenant] = level
		c.gates[node].windows[tenant] = min(window, level%3)
		before := c
		want := waited(c, node, tenant, cost)
		v, e := c.Wait(node, tenant, cost)
		if v != want || e != api.OK || c != before {
			t.Fatalf("P12: Wait(%d, %d, %d) of %+v: %d, %d, want %d", node, tenant, cost, before, v, e, want)
		}
		switch {
		case v == 0:
			zero++
		case v > 0:
			more++
		default:
			none++
		}
	}
	if zero == 0 || more == 0 || none == 0 {
		t.Errorf("P12: %d times 0, %d times more, %d times -1", zero, more, none)
	}
}
