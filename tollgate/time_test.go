package tollgate

import (
	"math"
	"testing"

	"tollgate/api"
)

func TestP4Pass(t *testing.T) {
	c := newCluster(t, 10, 0, two())
	for _, s := range []struct {
		ticks int
		want  api.Errno
		now   int
	}{
		{0, api.OK, 0},
		{7, api.OK, 7},
		{-1, api.ErrTime, 7},
		{math.MinInt, api.ErrTime, 7},
		{math.MaxInt, api.ErrTime, 7},
		{math.MaxInt - 6, api.ErrTime, 7},
		{api.MaxTime, api.ErrTime, 7},
		{api.MaxTime - 6, api.ErrTime, 7},
		{api.MaxTime - 7, api.OK, api.MaxTime},
		{1, api.ErrTime, api.MaxTime},
		{-1, api.ErrTime, api.MaxTime},
		{0, api.OK, api.MaxTime},
	} {
		e := c.Pass(s.ticks)
		wantError(t, "P4: Pass", e, s.want)
		if now := c.Time(); now != s.now {
			t.Errorf("P4: after Pass(%d): Time() = %d, want %d", s.ticks, now, s.now)
		}
	}
}

func TestP4WholeTimeAtOnce(t *testing.T) {
	c := newCluster(t, 10, 1, []api.Tenant{{Rate: api.MaxRate, Burst: api.MaxBurst}, {Rate: 0, Burst: 9}})
	c.gates[0].levels = [api.MaxTenants]int{}
	wantOK(t, c.Pass(api.MaxTime))
	wantLevel(t, c, 0, 0, api.MaxBurst-1, 0)
	wantLevel(t, c, 0, 1, 0, 0)
	wantLevel(t, c, 1, 0, api.MaxBurst-1, 0)
	wantLevel(t, c, 1, 1, 8, 0)
}

// Each node's levels are made to differ, so that one that grew in another's place would show.
func TestP4LevelsGrowTickByTick(t *testing.T) {
	tenants := []api.Tenant{{Rate: 3, Burst: 20}, {Rate: 0, Burst: 9}, {Rate: 1, Burst: 5}, {Rate: 1000, Burst: 4}}
	const window = 4
	start := [2][api.MaxTenants]int{{0, 2, 1, 0}, {5, 0, 0, 0}}
	for ticks := range 12 {
		once := newCluster(t, 10, window, tenants)
		often := newCluster(t, 10, window, tenants)
		for node := range 2 {
			once.gates[node].levels = start[node]
			often.gates[node].levels = start[node]
		}
		wantOK(t, once.Pass(ticks))
		for range ticks {
			wantOK(t, often.Pass(1))
		}
		for node := range 2 {
			for tenant, a := range tenants {
				want := start[node][tenant]
				for range ticks {
					want = min(want+a.Rate, a.Burst-window)
				}
				wantLevel(t, once, node, tenant, want, 0)
				wantLevel(t, often, node, tenant, want, 0)
			}
		}
	}
}

func TestP4PassLeavesTheRest(t *testing.T) {
	c := midway(t)
	before := *c
	wantOK(t, c.Pass(50))
	c.now = before.now
	for node := range 2 {
		c.gates[node].levels = before.gates[node].levels
	}
	if *c != before {
		t.Error("P4: Pass has changed more than the time and the levels")
	}
}
