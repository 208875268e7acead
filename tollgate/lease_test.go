package tollgate

import (
	"testing"

	"tollgate/api"
)

func TestP8WrongNodes(t *testing.T) {
	c := midway(t)
	wantWrongNodes(t, c, "P8: Campaign", c.Campaign)
}

func TestP8ALeaseGoesOver(t *testing.T) {
	c := newCluster(t, 10, 0, two())
	wantVerdict(t, c, 0, api.Granted)
	wantWitness(t, c, api.Witness{Holder: 0, Epoch: 1, Until: 10})
	wantNode(t, c, 0, api.Node{Up: true, Epoch: 1, Until: 10})
	wantVerdict(t, c, 1, api.Refused)
	wantNode(t, c, 1, api.Node{Up: true})
	wantOK(t, c.Pass(9))
	wantVerdict(t, c, 1, api.Refused)
	wantOK(t, c.Pass(1))
	wantVerdict(t, c, 1, api.Granted)
	wantWitness(t, c, api.Witness{Holder: 1, Epoch: 2, Until: 20})
	wantNode(t, c, 0, api.Node{Up: true, Epoch: 1, Until: 10})
	wantNode(t, c, 1, api.Node{Up: true, Epoch: 2, Until: 20})
	wantVerdict(t, c, 0, api.Refused)
}

func TestP8TheHolderGoesOn(t *testing.T) {
	c := newCluster(t, 10, 0, two())
	wantVerdict(t, c, 1, api.Granted)
	wantOK(t, c.Pass(4))
	wantVerdict(t, c, 1, api.Granted)
	wantNode(t, c, 1, api.Node{Up: true, Epoch: 1, Until: 14})
	wantOK(t, c.Pass(100))
	wantVerdict(t, c, 1, api.Granted)
	wantWitness(t, c, api.Witness{Holder: 1, Epoch: 1, Until: 114})
	wantOK(t, c.Crash(1))
	wantOK(t, c.Start(1))
	wantVerdict(t, c, 1, api.Granted)
	wantNode(t, c, 1, api.Node{Up: true, Epoch: 1, Until: 114})
}

func TestP8AtTheEndOfTime(t *testing.T) {
	c := newCluster(t, api.MaxLease, 0, two())
	wantOK(t, c.Pass(api.MaxTime))
	wantVerdict(t, c, 0, api.Granted)
	wantNode(t, c, 0, api.Node{Up: true, Epoch: 1, Until: api.MaxTime + api.MaxLease})
	wantVerdict(t, c, 1, api.Refused)
}

func TestP8LostMessages(t *testing.T) {
	c := newCluster(t, 10, 0, two())
	wantOK(t, c.Link(1, 2, api.Down))
	wantVerdict(t, c, 1, api.Lost)
	wantWitness(t, c, api.Witness{Holder: -1})
	wantOK(t, c.Link(1, 2, api.Half))
	wantVerdict(t, c, 1, api.Lost)
	wantWitness(t, c, api.Witness{Holder: 1, Epoch: 1, Until: 10})
	wantNode(t, c, 1, api.Node{Up: true})
	wantVerdict(t, c, 0, api.Refused)
	wantOK(t, c.Link(0, 1, api.Down))
	wantOK(t, c.Link(1, 2, api.Up))
	wantVerdict(t, c, 1, api.Granted)
	wantNode(t, c, 1, api.Node{Up: true, Epoch: 1, Until: 10})
}

// campaigned is P8 to the letter: what becomes of a cluster, and the verdict.
func campaigned(c Cluster, node int, mode int) (Cluster, int) {
	if mode == api.Down {
		return c, api.Lost
	}
	w := &c.witness
	isHolder := w.Holder == node
	grants := isHolder || w.Holder == -1 || !(c.now < w.Until) && !w.Solo
	if grants && !isHolder {
		w.Epoch, w.Holder, w.Solo = w.Epoch+1, node, false
	}
	if grants {
		w.Until = c.now + c.lease
	}
	if mode == api.Half {
		return c, api.Lost
	}
	if !grants {
		return c, api.Refused
	}
	g := &c.gates[node]
	if w.Epoch != g.own.Epoch {
		g.windows = [api.MaxTenants]int{}
	}
	g.own = api.Node{Up: true, Epoch: w.Epoch, Until: w.Until, Alone: w.Solo}
	return c, api.Granted
}

// campaigners are clusters at the time 17 with all that Campaign could hang on in every arrangement.
func campaigners(t *testing.T) []*Cluster {
	var all []*Cluster
	for _, holder := range []int{-1, 0, 1} {
		for _, until := range []int{0, 16, 17, 18} {
			for _, solo := range []bool{false, true} {
				for _, epoch := range []int{0, 3, 4, 5} {
					for _, alone := range []bool{false, true} {
						c := newCluster(t, 10, 3, two())
						wantOK(t, c.Pass(17))
						c.witness = api.Witness{Holder: holder, Epoch: 4, Until: until, Solo: solo}
						for i := range c.gates {
							c.gates[i].own = api.Node{Up: true, Epoch: epoch, Until: until - 1, Alone: alone}
							c.gates[i].levels = [api.MaxTenants]int{3 + i, 1}
							c.gates[i].windows = [api.MaxTenants]int{1 + i, 3}
						}
						all = append(all, c)
					}
				}
			}
		}
	}
	return all
}

func TestP8EveryArrangement(t *testing.T) {
	for node := range 2 {
		for mode := range 3 {
			for otherUp := range 2 {
				for _, c := range campaigners(t) {
					wantOK(t, c.Link(node, 2, mode))
					wantOK(t, c.Link(0, 1, api.Down))
					c.gates[1-node].own.Up = otherUp == 1
					before := *c
					want, verdict := campaigned(before, node, mode)
					v, e := c.Campaign(node)
					if v != verdict || e != api.OK || *c != want {
						t.Fatalf("P8: Campaign(%d) of %+v: %d, %d, %+v, want %d, %+v", node, before, v, e, *c, verdict, want)
					}
				}
			}
		}
	}
}

func TestP8SoloKeepsTheOtherOut(t *testing.T) {
	c := newCluster(t, 10, 3, two())
	wantVerdict(t, c, 0, api.Granted)
	c.witness.Solo = true
	c.gates[0].windows[0] = 2
	wantOK(t, c.Pass(30))
	wantVerdict(t, c, 1, api.Refused)
	wantVerdict(t, c, 0, api.Granted)
	wantNode(t, c, 0, api.Node{Up: true, Epoch: 1, Until: 40, Alone: true})
	wantWitness(t, c, api.Witness{Holder: 0, Epoch: 1, Until: 40, Solo: true})
	wantLevel(t, c, 0, 0, 7, 2)
	c.witness.Solo = false
	wantOK(t, c.Pass(10))
	wantVerdict(t, c, 1, api.Granted)
	wantOK(t, c.Pass(10))
	wantVerdict(t, c, 0, api.Granted)
	wantNode(t, c, 0, api.Node{Up: true, Epoch: 3, Until: 60})
	wantLevel(t, c, 0, 0, 7, 0)
}
