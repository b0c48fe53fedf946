package post_test

import (
	"math"
	"math/rand"
	"testing"
)

// ticket is one that lies there, one that did, or one that was never given.
func (r *run) ticket(c *rand.Rand) int {
	switch {
	case len(r.m.parcels) > 0 && c.Intn(3) > 0:
		return r.m.parcels[c.Intn(len(r.m.parcels))].ticket
	case c.Intn(10) == 0:
		return []int{math.MinInt, -1, 0, r.m.last + 1, math.MaxInt}[c.Intn(5)]
	}
	return 1 + c.Intn(r.m.last+1)
}

func (r *run) step(c *rand.Rand, nodes, fewer int) {
	r.t.Helper()
	from, to := c.Intn(nodes)-1, c.Intn(nodes)-1
	switch kind := c.Intn(12 + fewer); {
	case kind < 5:
		r.send(from, to, told(c.Intn(40), byte(c.Intn(256))))
	case kind < 7:
		r.copies(r.ticket(c))
	case kind < 9:
		r.at(from, to, c.Intn(6)-1)
	case kind < 10:
		r.burn(r.ticket(c))
	case kind < 11:
		if ticket := r.at(from, to, c.Intn(2)); ticket > 0 {
			r.open(ticket)
		}
	default:
		r.open(r.ticket(c))
	}
}

// Scripts of calls against a plain model of the document.
func TestScripts(t *testing.T) {
	for seed := range int64(120) {
		c := rand.New(rand.NewSource(seed))
		r := begin(t)
		for n := range 300 {
			r.step(c, 2+int(seed%5), n/60)
			if n%40 == 0 {
				r.lies()
			}
		}
		r.lies()
		for len(r.m.parcels) > 0 {
			w := r.m.ways()[0]
			r.open(r.at(w.From, w.To, 0))
		}
	}
}
