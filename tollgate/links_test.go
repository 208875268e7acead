package tollgate

import (
	"testing"

	"tollgate/api"
)

func isAny(n int, list ...int) bool {
	for _, l := range list {
		if n == l {
			return true
		}
	}
	return false
}

func TestP5Link(t *testing.T) {
	for _, a := range odd {
		for _, b := range odd {
			for _, mode := range odd {
				c := newCluster(t, 10, 0, two())
				want := api.ErrLink
				if isAny(a, 0, 1, 2) && isAny(b, 0, 1, 2) && a != b && isAny(mode, 0, 1, 2) {
					want = api.OK
				}
				if e := c.Link(a, b, mode); e != want {
					t.Fatalf("P5: Link(%d, %d, %d) = %d, want %d", a, b, mode, e, want)
				}
			}
		}
	}
}

func wantMessage(t *testing.T, c *Cluster, from int, to int, arrives bool, answered bool) {
	t.Helper()
	a, b := c.message(from, to)
	if a != arrives || b != answered {
		t.Errorf("a message from %d to %d: %v, %v, want %v, %v", from, to, a, b, arrives, answered)
	}
}

func TestP5LinksAreApart(t *testing.T) {
	for code := range 27 {
		modes := [3]int{code % 3, code / 3 % 3, code / 9}
		for order := range 2 {
			c := newCluster(t, 10, 0, two())
			for i, ends := range [3][2]int{{0, 1}, {0, 2}, {1, 2}} {
				wantOK(t, c.Link(ends[order], ends[1-order], api.Down))
				wantOK(t, c.Link(ends[1-order], ends[order], modes[i]))
			}
			wantMessage(t, c, 0, 1, modes[0] != api.Down, modes[0] == api.Up)
			wantMessage(t, c, 1, 0, modes[0] != api.Down, modes[0] == api.Up)
			wantMessage(t, c, 0, 2, modes[1] != api.Down, modes[1] == api.Up)
			wantMessage(t, c, 1, 2, modes[2] != api.Down, modes[2] == api.Up)
		}
	}
}

func TestP5AndNothingElse(t *testing.T) {
	c := midway(t)
	before := *c
	wantOK(t, c.Link(1, 2, api.Down))
	wantOK(t, c.Link(0, 1, api.Up))
	c.links = before.links
	if *c != before {
		t.Error("P5: Link has changed more than the mode")
	}
}

func TestMessagesToANodeThatIsNotUp(t *testing.T) {
	c := newCluster(t, 10, 0, two())
	wantOK(t, c.Crash(1))
	wantMessage(t, c, 0, 1, false, false)
	wantMessage(t, c, 0, 2, true, true)
	wantOK(t, c.Link(0, 1, api.Half))
	wantMessage(t, c, 0, 1, false, false)
	wantOK(t, c.Start(1))
	wantMessage(t, c, 0, 1, true, false)
}
