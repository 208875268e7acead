package tollgate

import (
	"math"
	"testing"

	"tollgate/api"
)

func TestP3New(t *testing.T) {
	four := append(two(), two()...)
	for _, s := range []struct {
		lease   int
		window  int
		tenants []api.Tenant
		want    api.Errno
	}{
		{10, 3, two(), api.OK},
		{1, 0, []api.Tenant{{Rate: 0, Burst: 1}}, api.OK},
		{api.MaxLease, api.MaxBurst, []api.Tenant{{Rate: api.MaxRate, Burst: api.MaxBurst}}, api.OK},
		{10, 5, two(), api.OK},
		{10, 0, four, api.OK},
		{0, 0, two(), api.ErrLease},
		{-1, 0, two(), api.ErrLease},
		{api.MaxLease + 1, 0, two(), api.ErrLease},
		{math.MinInt, 0, two(), api.ErrLease},
		{math.MaxInt, 0, two(), api.ErrLease},
		{10, 0, nil, api.ErrTenant},
		{10, 0, []api.Tenant{}, api.ErrTenant},
		{10, 0, append(four, api.Tenant{Rate: 1, Burst: 1}), api.ErrTenant},
		{10, 0, []api.Tenant{{Rate: -1, Burst: 1}}, api.ErrTenant},
		{10, 0, []api.Tenant{{Rate: api.MaxRate + 1, Burst: 1}}, api.ErrTenant},
		{10, 0, []api.Tenant{{Rate: 1, Burst: 0}}, api.ErrTenant},
		{10, 0, []api.Tenant{{Rate: 1, Burst: -1}}, api.ErrTenant},
		{10, 0, []api.Tenant{{Rate: 1, Burst: api.MaxBurst + 1}}, api.ErrTenant},
		{10, 0, append(two(), api.Tenant{Rate: 1, Burst: 0}), api.ErrTenant},
		{10, -1, two(), api.ErrWindow},
		{10, math.MinInt, two(), api.ErrWindow},
		{10, math.MaxInt, two(), api.ErrWindow},
		{10, 6, two(), api.ErrWindow},
		{10, 6, []api.Tenant{{Rate: 0, Burst: 5}, {Rate: 2, Burst: 10}}, api.ErrWindow},
	} {
		c, e := New(s.lease, s.window, s.tenants)
		if e != s.want || (c == nil) != (s.want != api.OK) {
			t.Errorf("P3: New(%d, %d, %v) = %v, %d, want %d", s.lease, s.window, s.tenants, c, e, s.want)
		}
	}
}

func TestP3AtFirst(t *testing.T) {
	c := newCluster(t, 10, 3, append(two(), api.Tenant{Rate: 1, Burst: 3}, api.Tenant{Rate: 1, Burst: api.MaxBurst}))
	if n := c.Time(); n != 0 {
		t.Errorf("P3: Time() = %d", n)
	}
	wantWitness(t, c, api.Witness{Holder: -1})
	for node := range 2 {
		wantNode(t, c, node, api.Node{Up: true})
		for tenant, room := range []int{7, 2, 0, api.MaxBurst - 3} {
			wantLevel(t, c, node, tenant, room, 0)
		}
		_, _, e := c.Level(node, 4)
		wantError(t, "P3: a fifth tenant", e, api.ErrTenant)
	}
	for node := range 2 {
		for _, to := range []int{1 - node, api.Arbiter} {
			if arrives, answered := c.message(node, to); !arrives || !answered {
				t.Errorf("P3: the link from %d to %d is not Up", node, to)
			}
		}
	}
}
