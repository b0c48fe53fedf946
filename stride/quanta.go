package stride

import (
	"cmp"
	"iter"
	"slices"

	"furlong/api"
)

func inRange(tickets int) bool {
	return tickets >= 1 && tickets <= api.MaxTickets
}

// stride: how far a quantum brings a client with so many tickets.
func stride(tickets int) int64 {
	return api.Stride / int64(tickets)
}

func (g *Group) seek(id int) (int, bool) {
	return slices.BinarySearchFunc(g.clients, id, func(c Client, id int) int { return cmp.Compare(c.Id, id) })
}

// quanta yields who gets the next n quanta. The group is settled behind each of them, so that it may be left at any. Somebody must be there.
func (g *Group) quanta(n int) iter.Seq[int] {
	return func(yield func(int) bool) {
		for range n {
			next := g.next()
			next.Pass += stride(next.Tickets)
			g.settle()
			if !yield(next.Id) {
				return
			}
		}
	}
}

// next asks strictly, so that of clients as far as each other the one that stands ahead, with the least Id, stays the next.
func (g *Group) next() *Client {
	least := &g.clients[0]
	for at := range g.clients {
		if g.clients[at].Pass < least.Pass {
			least = &g.clients[at]
		}
	}
	return least
}

// settle takes the least pass off all.
func (g *Group) settle() {
	if len(g.clients) == 0 {
		return
	}
	least := g.next().Pass
	for at := range g.clients {
		g.clients[at].Pass -= least
	}
}
