package table_test

import (
	"testing"

	"furlong/api"
)

// The document's examples 1 and 2.
func TestExampleSubmit(t *testing.T) {
	r := home(t)
	r.submit(task(7, 1, 1, 1))
	r.grants("a lease on core 0", 7, 1, []int{0})
	r.refused("again", submit(task(7, 1, 1, 1)), api.ErrExists)
	r.refused("seven cores", submit(task(8, 1, 7, 1)), api.ErrQuota)
	r.refused("the queue 0", submit(task(8, 0, 1, 1)), api.ErrLeaf)
	r.refused("the queue 9", submit(task(8, 9, 1, 1)), api.ErrNone)
}

// The document's example 5, so far as commands tell it: a node joins anew, and its tasks get leases again.
func TestExampleJoinAnew(t *testing.T) {
	r := home(t)
	r.submit(task(7, 1, 1, 1), task(8, 2, 1, 1))
	r.grants("a lease", 7, 1, []int{0})
	r.grants("a lease", 8, 1, []int{1})
	r.joins("its leases end", again(node(1, 2, 8), 2), 7, 8)
	r.grants("a lease again", 7, 1, []int{0})
	r.grants("a lease again", 8, 1, []int{1})
}

// The document's example 8: a killed task's lease is not renewed any more, and ends.
func TestExampleKill(t *testing.T) {
	r := home(t)
	r.submit(task(7, 1, 1, 1))
	r.grants("a lease", 7, 1, []int{0})
	r.elapse("time", 20, unchanged)
	r.renews("it lasts", 1, 1, 1, 7)
	r.killed("it", 7)
	r.elapse("time", 20, unchanged)
	r.renews("it is not renewed", 1, 1, 2)
	r.elapse("time", 19, unchanged)
	r.renews("nor just ahead of its end", 1, 1, 3)
	r.elapse("it ends", 1, func(s *api.State) { unlease(s, 7, api.Killed) })
	r.idle("it stays Killed")
}

// The document's example 9: of six cores the queue 1 gets two, the queue 2 four.
func TestExampleShares(t *testing.T) {
	r := home(t)
	for i := range 10 {
		r.submit(task(100+i, 1, 1, 1), task(200+i, 2, 1, 1))
	}
	for _, x := range []struct{ task, node, core int }{{100, 1, 0}, {200, 1, 1}, {201, 2, 0}, {101, 2, 1}, {202, 2, 2}, {203, 2, 3}} {
		r.grants("a core", x.task, x.node, []int{x.core})
	}
	r.idle("all cores are leased")
	if a, b := leased(r.s, 1, anyLease), leased(r.s, 2, anyLease); a != v(2, 2) || b != v(4, 4) {
		t.Errorf("P7: the queues got %v and %v", a, b)
	}
}

// The document's example 10: the queue 1 has a Min, and comes late; leases of 2 yield to it, Patience by Patience, and end; its tasks get theirs.
func TestExamplePatience(t *testing.T) {
	r := begin(t, trio(v(2, 2)), 40, 10, node(1, 2, 8), node(2, 4, 8))
	for i := range 6 {
		r.submit(task(200+i, 2, 1, 1))
		r.do("a core", round(), api.Answer{Task: 200 + i, Node: 1 + (i+2)/4, Cores: []int{[]int{0, 1, 0, 1, 2, 3}[i]}}, func(s *api.State) {
			s.Tasks[i].State = api.Leased
			s.Leases = append(s.Leases, api.Lease{Task: 200 + i, Queue: 2, Node: 1 + (i+2)/4, Cores: []int{[]int{0, 1, 0, 1, 2, 3}[i]}, Mem: 1, Until: 40})
		})
	}
	r.submit(task(100, 1, 1, 1), task(101, 1, 1, 1), task(102, 1, 1, 1))
	r.idle("hungry", hunger(1, 0))
	r.elapse("Patience", 10, unchanged)
	r.stops("one lease of 2", 205, hunger(1, 10))
	r.elapse("Patience", 10, unchanged)
	r.stops("another one", 204, hunger(1, 20))
	r.elapse("time", 5, unchanged)
	r.renews("the node 1", 1, 1, 1, 200, 201)
	r.renews("the node 2, but those two", 2, 1, 1, 202, 203)
	r.elapse("those two end", 15, func(s *api.State) {
		unlease(s, 204, api.Pending)
		unlease(s, 205, api.Pending)
	})
	r.grants("1 gets a core", 100, 2, []int{2}, hunger(1, 20))
	r.grants("and another one", 101, 2, []int{3}, hunger(1, 20))
	r.idle("it has its Min")
}

// The chapter's example: Elapse(Long) behind a grant.
func TestExampleElapse(t *testing.T) {
	r := home(t)
	r.submit(task(7, 1, 1, 1))
	r.grants("a lease", 7, 1, []int{0})
	r.elapse("Long", 40, func(s *api.State) {
		s.Leases = nil
		s.Tasks[0].State = api.Pending
	})
}
