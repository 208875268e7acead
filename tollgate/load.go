package tollgate

import (
	"strconv"

	"tollgate/api"
)

// Load reads a cluster (P15). The bounds of its numbers are such that no call leads out of them: so whatever Load has made of a text, what Save writes of it later can be loaded again.
func Load(text string) (*Cluster, api.Errno) {
	r := &reader{text: text}
	c := &Cluster{}
	c.readTerms(r)
	c.now = r.number(0, api.MaxTime)
	for i := range c.links {
		c.links[i] = r.number(api.Up, api.Down)
	}
	c.readWitness(r)
	for i := range c.gates {
		c.readGate(r, i)
	}
	if r.bad || r.at != len(text) {
		return nil, api.ErrText
	}
	return c, api.OK
}

func (c *Cluster) readTerms(r *reader) {
	c.lease = r.number(1, api.MaxLease)
	c.window = r.number(0, api.MaxBurst)
	c.count = r.number(1, api.MaxTenants)
	least := 1
	if c.window > least {
		least = c.window
	}
	for i := 0; i < c.count; i++ {
		c.tenants[i].Rate = r.number(0, api.MaxRate)
		c.tenants[i].Burst = r.number(least, api.MaxBurst)
	}
}

func (c *Cluster) readWitness(r *reader) {
	c.witness.Holder = nobody + r.number(0, 2)
	if c.witness.Holder == nobody {
		return
	}
	c.witness.Until = r.number(c.lease, c.now+c.lease)
	// Another epoch begins only when the until has come, and puts it ahead again: with each one it has grown.
	c.witness.Epoch = r.number(1, c.witness.Until)
	c.witness.Solo = r.flag()
}

func (c *Cluster) readGate(r *reader, node int) {
	for i := 0; i < c.count; i++ {
		room := c.room(i)
		c.gates[node].levels[i] = r.number(0, room)
	}
	c.gates[node].own.Up = r.flag()
	if !c.gates[node].own.Up {
		return
	}
	c.gates[node].own.Until = r.number(0, c.witness.Until)
	c.gates[node].own.Epoch = r.number(0, c.witness.Epoch)
	c.gates[node].own.Alone = r.flag()
	for i := 0; i < c.count; i++ {
		c.gates[node].windows[i] = r.number(0, c.window)
	}
}

// reader takes the numbers of a text one after another.
type reader struct {
	text string
	at   int  // there the next number begins
	bad  bool // Save would not have written what was read so far
}

// number reads a number from least to most. Of a bad text it answers least, so that what is indexed or counted with it is safe all the same.
func (r *reader) number(least int, most int) int {
	if r.bad {
		return least
	}
	n, good := r.decimal(most)
	if !good || n < least || n > most {
		r.bad = true
		return least
	}
	return n
}

func (r *reader) flag() bool { return r.number(0, 1) == 1 }

// decimal reads digits and the mark behind them, and tells whether they are what Save writes of that number. It stops above most, far from overflow.
func (r *reader) decimal(most int) (int, bool) {
	first := r.at
	n := 0
	for n <= most && r.isDigit() {
		n = n*10 + int(r.text[r.at]-'0')
		r.at++
	}
	written := strconv.Itoa(n) + mark
	end := first + len(written)
	if end > len(r.text) || r.text[first:end] != written {
		return 0, false
	}
	r.at = end
	return n, true
}

func (r *reader) isDigit() bool {
	return r.at < len(r.text) && r.text[r.at] >= '0' && r.text[r.at] <= '9'
}
