package tollgate

import "strconv"

// Behind each number of a text, the last one too: so a text that is cut short never passes for a whole one.
const mark = ";"

// Save writes a cluster down (P15).
func (c *Cluster) Save() string {
	w := &writer{}
	c.writeTerms(w)
	w.number(c.now)
	for _, mode := range c.links {
		w.number(mode)
	}
	c.writeWitness(w)
	for i := range c.gates {
		c.writeGate(w, i)
	}
	return w.text
}

// writeTerms writes what New was handed.
func (c *Cluster) writeTerms(w *writer) {
	w.number(c.lease)
	w.number(c.window)
	w.number(c.count)
	for i := 0; i < c.count; i++ {
		w.number(c.tenants[i].Rate)
		w.number(c.tenants[i].Burst)
	}
}

// writeWitness writes no more than that there is no holder, if there is none: then the rest is as at first.
func (c *Cluster) writeWitness(w *writer) {
	// Counted from nobody on: no number of a text has a sign.
	w.number(c.witness.Holder - nobody)
	if c.witness.Holder == nobody {
		return
	}
	w.number(c.witness.Until)
	w.number(c.witness.Epoch)
	w.flag(c.witness.Solo)
}

// writeGate writes the levels alone of a node that is not up: it keeps nothing else.
func (c *Cluster) writeGate(w *writer, node int) {
	for i := 0; i < c.count; i++ {
		w.number(c.gates[node].levels[i])
	}
	own := c.gates[node].own
	w.flag(own.Up)
	if !own.Up {
		return
	}
	w.number(own.Until)
	w.number(own.Epoch)
	w.flag(own.Alone)
	for i := 0; i < c.count; i++ {
		w.number(c.gates[node].windows[i])
	}
}

// writer lays numbers behind one another.
type writer struct {
	text string
}

func (w *writer) number(n int) { w.text += strconv.Itoa(n) + mark }

func (w *writer) flag(set bool) {
	if set {
		w.number(1)
		return
	}
	w.number(0)
}
