package tollgate

import (
	"testing"

	"tollgate/api"
)

// The rows of the document's first example, up to the first Join.
func TestExampleOfTwoTenants(t *testing.T) {
	c := newCluster(t, 10, 0, two())
	wantAsk(t, c, 0, 0, 4, api.Elsewhere)
	wantVerdict(t, c, 0, api.Granted)
	wantWitness(t, c, api.Witness{Holder: 0, Epoch: 1, Until: 10})
	wantNode(t, c, 0, api.Node{Up: true, Epoch: 1, Until: 10})
	wantVerdict(t, c, 1, api.Refused)
	wantAsk(t, c, 0, 0, 4, api.Admit)
	wantLevel(t, c, 0, 0, 6, 0)
	wantLevel(t, c, 1, 0, 6, 0)
	wantAsk(t, c, 0, 0, 7, api.Deny)
	wantOK(t, c.Pass(1))
	wantAsk(t, c, 0, 0, 7, api.Admit)
	wantLevel(t, c, 0, 0, 1, 0)
	wantOK(t, c.Link(0, 1, api.Half))
	wantAsk(t, c, 0, 1, 2, api.Admit)
	wantLevel(t, c, 0, 1, 3, 0)
	wantLevel(t, c, 1, 1, 3, 0)
	wantNode(t, c, 0, api.Node{Up: true, Epoch: 1, Until: 10, Alone: true})
	wantWitness(t, c, api.Witness{Holder: 0, Epoch: 1, Until: 10, Solo: true})
	wantAsk(t, c, 0, 1, 2, api.Admit)
	wantLevel(t, c, 0, 1, 1, 0)
	wantLevel(t, c, 1, 1, 3, 0)
	wantOK(t, c.Crash(0))
	wantOK(t, c.Pass(30))
	wantVerdict(t, c, 1, api.Refused)
	wantOK(t, c.Start(0))
	wantVerdict(t, c, 0, api.Granted)
	wantWitness(t, c, api.Witness{Holder: 0, Epoch: 1, Until: 41, Solo: true})
	wantNode(t, c, 0, api.Node{Up: true, Epoch: 1, Until: 41, Alone: true})
}

func TestExampleOfAWindow(t *testing.T) {
	c := newCluster(t, 10, 3, []api.Tenant{{Rate: 1, Burst: 10}})
	wantVerdict(t, c, 1, api.Granted)
	wantAsk(t, c, 1, 0, 2, api.Admit)
	wantLevel(t, c, 1, 0, 2, 3)
	wantLevel(t, c, 0, 0, 2, 0)
	wantAsk(t, c, 1, 0, 3, api.Admit)
	wantLevel(t, c, 1, 0, 2, 0)
	wantAsk(t, c, 1, 0, 1, api.Admit)
	wantLevel(t, c, 1, 0, 1, 0)
	wantAsk(t, c, 1, 0, 2, api.Deny)
	wantOK(t, c.Link(1, 0, api.Down))
	wantOK(t, c.Link(1, 2, api.Down))
	wantAsk(t, c, 1, 0, 1, api.Busy)
	wantWitness(t, c, api.Witness{Holder: 1, Epoch: 1, Until: 10})
	wantOK(t, c.Link(1, 2, api.Half))
	wantAsk(t, c, 1, 0, 1, api.Busy)
	wantWitness(t, c, api.Witness{Holder: 1, Epoch: 1, Until: 10, Solo: true})
}
