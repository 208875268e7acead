package tollgate

import (
	"testing"

	"tollgate/api"
)

func TestP6CrashAndStart(t *testing.T) {
	for node := range 2 {
		c := newCluster(t, 10, 3, two())
		wantError(t, "P6: Start of a node that is up", c.Start(node), api.ErrUp)
		wantVerdict(t, c, node, api.Granted)
		for i := range 2 {
			c.gates[i].own.Alone = true
			c.gates[i].levels = [api.MaxTenants]int{1, 1}
			c.gates[i].windows = [api.MaxTenants]int{3, 2}
		}
		want := *c
		wantOK(t, c.Crash(node))
		want.gates[node] = gate{levels: [api.MaxTenants]int{1, 1}}
		if *c != want {
			t.Errorf("P6: Crash(%d): %+v, want %+v", node, *c, want)
		}
		wantError(t, "P6: Crash of a node that is not up", c.Crash(node), api.ErrDown)
		wantOK(t, c.Pass(2))
		wantLevel(t, c, node, 0, 5, 0)
		wantLevel(t, c, node, 1, 1, 0)
		want = *c
		wantOK(t, c.Start(node))
		want.gates[node].own.Up = true
		if *c != want {
			t.Errorf("P6: Start(%d): %+v, want %+v", node, *c, want)
		}
		wantError(t, "P6: Start of a node that is up again", c.Start(node), api.ErrUp)
		wantOK(t, c.Crash(node))
		wantNode(t, c, node, api.Node{})
		wantNode(t, c, 1-node, api.Node{Up: true, Alone: true})
	}
}

func TestP6NoSuchNode(t *testing.T) {
	c := midway(t)
	for _, node := range odd {
		if isAny(node, 0, 1) {
			continue
		}
		wantError(t, "P6: Crash", c.Crash(node), api.ErrNode)
		wantError(t, "P6: Start", c.Start(node), api.ErrNode)
	}
}

func TestP7Tells(t *testing.T) {
	c := midway(t)
	wantWitness(t, c, api.Witness{Holder: 0, Epoch: 2, Until: 27, Solo: true})
	wantNode(t, c, 0, api.Node{Up: true, Epoch: 2, Until: 27, Alone: true})
	wantNode(t, c, 1, api.Node{})
	wantLevel(t, c, 0, 0, 4, 2)
	wantLevel(t, c, 0, 1, 1, 3)
	wantLevel(t, c, 1, 0, 5, 0)
	wantLevel(t, c, 1, 1, 2, 0)
}

func TestP7WrongNumbers(t *testing.T) {
	c := midway(t)
	for _, node := range odd {
		wantNodeError := api.ErrNode
		if isAny(node, 0, 1) {
			wantNodeError = api.OK
		}
		_, e := c.Node(node)
		wantError(t, "P7: Node", e, wantNodeError)
		for _, tenant := range odd {
			want := wantNodeError
			if want == api.OK && !isAny(tenant, 0, 1) {
				want = api.ErrTenant
			}
			l, w, e := c.Level(node, tenant)
			wantError(t, "P7: Level", e, want)
			if e != api.OK && (l != 0 || w != 0) {
				t.Errorf("P7: Level(%d, %d) = %d, %d, %d", node, tenant, l, w, e)
			}
		}
	}
}
