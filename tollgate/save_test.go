package tollgate

import (
	"testing"

	"tollgate/api"
)

// situations are what a cluster can be saved amid.
func situations(c *Cluster) map[string]bool {
	is := map[string]bool{}
	is["no holder"] = c.witness.Holder == nobody
	is["node 0 is the holder"] = c.witness.Holder == 0
	is["node 1 is the holder"] = c.witness.Holder == 1
	is["a later epoch"] = c.witness.Epoch > 2
	is["solo is noted"] = c.witness.Solo
	is["solo is not noted"] = c.witness.Holder != nobody && !c.witness.Solo
	for i, g := range c.gates {
		is["a node is up"] = is["a node is up"] || g.own.Up
		is["a node is not up"] = is["a node is not up"] || !g.own.Up
		is["a lease stands"] = is["a lease stands"] || c.now < g.own.Until
		is["a lease has run out"] = is["a lease has run out"] || g.own.Until > 0 && c.now >= g.own.Until
		is["a node acts alone"] = is["a node acts alone"] || g.own.Alone
		is["a holder has not heard of it"] = is["a holder has not heard of it"] || c.witness.Holder == i && g.own.Epoch != c.witness.Epoch
		is["a window is not empty"] = is["a window is not empty"] || g.windows[0] > 0
		is["a level is 0"] = is["a level is 0"] || g.levels[0] == 0
	}
	for i, mode := range c.links {
		is["link "+string(rune('0'+i))+" has mode "+string(rune('0'+mode))] = true
	}
	is["the levels are not the same"] = c.gates[0].levels != c.gates[1].levels
	return is
}

func TestP15LoadedGoesOnAsTheOneSaved(t *testing.T) {
	met := map[string]int{}
	for seed, s := range []struct {
		lease, window int
		tenants       []api.Tenant
	}{
		{10, 3, two()},
		{1, 0, two()[:1]},
		{2, 1, []api.Tenant{{Rate: 1, Burst: 6}, {Rate: 2, Burst: 8}, {Rate: 0, Burst: 30}}},
		{5, 5, []api.Tenant{{Rate: 3, Burst: 20}, {Rate: 1, Burst: 5}, {Rate: 1, Burst: 9}, {Rate: 1, Burst: 7}}},
	} {
		whole := newCluster(t, s.lease, s.window, s.tenants)
		broken := newCluster(t, s.lease, s.window, s.tenants)
		for i, number := range scrambled(uint64(seed), 3000) {
			for name, is := range situations(broken) {
				if is {
					met[name]++
				}
			}
			broken = again(t, broken)
			got, want := step(broken, number), step(whole, number)
			if got != want || *broken != *whole {
				t.Fatalf("P15: call %d was answered %v behind Load, %v without", i, got, want)
			}
		}
	}
	const all = 3 + 1 + 2 + 8 + 9 + 1
	if len(met) != all {
		t.Errorf("%d situations were told of, want %d: %v", len(met), all, met)
	}
	for name := range situations(midway(t)) {
		if met[name] < 20 {
			t.Errorf("only %d times was a cluster saved in which %s", met[name], name)
		}
	}
}

func TestP15TheGreatestAndTheLeast(t *testing.T) {
	least := []api.Tenant{{Rate: 0, Burst: 1}}
	most := api.Tenant{Rate: api.MaxRate, Burst: api.MaxBurst}
	four := []api.Tenant{most, most, most, most}
	for _, s := range []struct {
		lease, window int
		tenants       []api.Tenant
	}{
		{1, 0, least},
		{1, 1, least},
		{api.MaxLease, 0, four},
		{api.MaxLease, api.MaxBurst, four},
		{api.MaxLease, api.MaxBurst / 2, four},
		{1, 0, four},
		{api.MaxLease, 1, least},
	} {
		for _, ticks := range []int{0, 1, api.MaxTime - 1, api.MaxTime} {
			c := again(t, newCluster(t, s.lease, s.window, s.tenants))
			wantOK(t, c.Pass(ticks))
			c = again(t, c)
			wantVerdict(t, c, 1, api.Granted)
			c = again(t, c)
			wantWitness(t, c, api.Witness{Holder: 1, Epoch: 1, Until: ticks + s.lease})
			for i := range s.tenants {
				for _, cost := range []int{1, s.tenants[i].Burst - s.window, s.window, api.MaxCost} {
					c.Ask(1, i, cost)
					c = again(t, c)
				}
			}
		}
	}
}

// An epoch for each tick is as many as there can be.
func TestP15EpochAfterEpoch(t *testing.T) {
	c := newCluster(t, 1, 0, two())
	for i := range 100 {
		wantVerdict(t, c, i%2, api.Granted)
		wantWitness(t, c, api.Witness{Holder: i % 2, Epoch: i + 1, Until: i + 1})
		c = again(t, c)
		wantOK(t, c.Pass(1))
		c = again(t, c)
	}
	c.now = api.MaxTime - 1
	c.witness.Until = api.MaxTime - 1
	c.witness.Epoch = api.MaxTime - 1
	c = again(t, c)
	wantVerdict(t, c, 0, api.Granted)
	c = again(t, c)
	wantOK(t, c.Pass(1))
	wantVerdict(t, c, 1, api.Granted)
	c = again(t, c)
	wantWitness(t, c, api.Witness{Holder: 1, Epoch: api.MaxTime + 1, Until: api.MaxTime + 1})
}

func TestP15LikeClustersSaveLikeTexts(t *testing.T) {
	if one, other := midway(t).Save(), midway(t).Save(); one != other {
		t.Errorf("P15: the same calls, and saved as %q and %q", one, other)
	}
	short := newCluster(t, 10, 3, two())
	wantOK(t, short.Pass(7))
	wantVerdict(t, short, 0, api.Granted)
	wantAsk(t, short, 0, 0, 2, api.Admit)
	wantAsk(t, short, 0, 0, 3, api.Admit)
	long := newCluster(t, 10, 3, two())
	wantOK(t, long.Link(1, 0, api.Down))
	wantOK(t, long.Crash(1))
	wantOK(t, long.Pass(3))
	wantOK(t, long.Start(1))
	wantOK(t, long.Pass(4))
	wantOK(t, long.Link(0, 1, api.Up))
	wantVerdict(t, long, 0, api.Granted)
	wantAsk(t, long, 1, 1, 1, api.Elsewhere)
	wantAsk(t, long, 0, 0, 1, api.Admit)
	wantAsk(t, long, 0, 0, 1, api.Admit)
	wantAsk(t, long, 0, 0, 3, api.Admit) // 2 out of the window, 1 out of the level
	if one, other := short.Save(), long.Save(); one != other {
		t.Errorf("P15: different ways to like clusters, and saved as %q and %q", one, other)
	}
}

// otherwise are ways to make one thing of midway another.
func otherwise() []func(c *Cluster) {
	return []func(c *Cluster){
		func(c *Cluster) { c.lease = 11 },
		func(c *Cluster) { c.window = 4; c.gates[1].levels[1] = 1 },
		func(c *Cluster) { c.tenants[0].Rate = 3 },
		func(c *Cluster) { c.tenants[0].Burst = 11 },
		func(c *Cluster) { c.tenants[1].Rate = 1 },
		func(c *Cluster) { c.tenants[1].Burst = 6 },
		func(c *Cluster) { c.count = 3; c.tenants[2] = api.Tenant{Rate: 1, Burst: 3} },
		func(c *Cluster) { c.now = 18 },
		func(c *Cluster) { c.links[0] = api.Up },
		func(c *Cluster) { c.links[0] = api.Down },
		func(c *Cluster) { c.links[1] = api.Half },
		func(c *Cluster) { c.links[2] = api.Half },
		func(c *Cluster) { c.witness.Holder = 1 },
		func(c *Cluster) { c.witness.Epoch = 3 },
		func(c *Cluster) { c.witness.Until = 27; c.gates[0].own.Until = 26 },
		func(c *Cluster) { c.witness.Solo = false },
		func(c *Cluster) { c.gates[0].own.Epoch = 1 },
		func(c *Cluster) { c.gates[0].own.Until = 0 },
		func(c *Cluster) { c.gates[0].own.Alone = false },
		func(c *Cluster) { c.gates[0].levels[0] = 5 },
		func(c *Cluster) { c.gates[0].levels[1] = 2 },
		func(c *Cluster) { c.gates[0].windows[0] = 3 },
		func(c *Cluster) { c.gates[0].windows[1] = 2 },
		func(c *Cluster) { c.gates[1].levels[0] = 4 },
		func(c *Cluster) { c.gates[1].levels[1] = 1 },
		func(c *Cluster) { c.gates[1].own.Up = true },
		func(c *Cluster) { c.gates[1].own = api.Node{Up: true, Epoch: 1} },
		func(c *Cluster) { c.gates[1].own = api.Node{Up: true, Until: 7} },
		func(c *Cluster) { c.gates[1].own = api.Node{Up: true, Alone: true} },
		func(c *Cluster) { c.gates[1].own.Up = true; c.gates[1].windows[0] = 1 },
		func(c *Cluster) { c.gates[1].own.Up = true; c.gates[1].windows[1] = 1 },
	}
}

func TestP15DifferentClustersSaveDifferentTexts(t *testing.T) {
	seen := map[string]int{midway(t).Save(): -1}
	for i, change := range otherwise() {
		c := midway(t)
		change(c)
		again(t, c)
		text := c.Save()
		if before, is := seen[text]; is {
			t.Errorf("P15: changes %d and %d are both saved as %q", before, i, text)
		}
		seen[text] = i
	}
}

func TestP2AndP15TwoOfOneTextAreApart(t *testing.T) {
	saved := midway(t)
	text := saved.Save()
	first := again(t, saved)
	second := again(t, saved)
	before := *second
	for _, number := range scrambled(3, 300) {
		step(first, number)
		if *second != before || *saved != before {
			t.Fatal("P2: a call of one cluster has changed another of the same text")
		}
	}
	if *first == before {
		t.Error("the calls have changed nothing")
	}
	third, e := Load(text)
	wantOK(t, e)
	if *third != before {
		t.Errorf("P2: Load(%q) is %+v behind calls of another, want %+v", text, *third, before)
	}
}
