package table_test

import (
	"math"
	"testing"

	"furlong/api"
	"furlong/table"
)

func TestNew(t *testing.T) {
	for _, long := range []int64{1, 2, 40, api.MaxRes} {
		for _, patience := range []int64{0, 1, 10, api.MaxRes} {
			created(t, trio(v(2, 2)), long, patience, api.OK)
		}
	}
	created(t, []api.Queue{q(0, -1, 1, v(0, 0), v(0, 0))}, 40, 10, api.OK)
}

func TestNewRefused(t *testing.T) {
	for _, x := range []int64{0, -1, api.MaxRes + 1, math.MinInt64, math.MaxInt64} {
		created(t, trio(v(0, 0)), x, 10, api.ErrArg)
		created(t, trio(v(0, 0)), x, -1, api.ErrArg)
	}
	for _, x := range []int64{-1, api.MaxRes + 1, math.MinInt64, math.MaxInt64} {
		created(t, trio(v(0, 0)), 40, x, api.ErrArg)
	}
}

// What is wrong in the queues comes ahead of what is wrong in the numbers.
func TestNewWrongQueues(t *testing.T) {
	long := trio(v(0, 0))
	for id := 3; id <= api.MaxQueues; id++ {
		long = append(long, q(id, 0, 1, v(1, 1), v(0, 0)))
	}
	created(t, long[:api.MaxQueues], 40, 10, api.OK)
	noWeight := trio(v(0, 0))
	noWeight[2].Weight = 0
	greedy := trio(v(2, 2))
	greedy[0].Min = v(2, 1)
	for err, queues := range map[api.Errno][]api.Queue{
		api.ErrLong:  long,
		api.ErrForm:  nil,
		api.ErrArg:   noWeight,
		api.ErrQuota: greedy,
	} {
		created(t, queues, 40, 10, err)
		created(t, queues, 0, 10, err)
		created(t, queues, 40, -1, err)
	}
	created(t, []api.Queue{q(1, -1, 1, v(1, 1), v(0, 0))}, 0, -1, api.ErrForm)
}

// With a Long of 1 and of MaxRes leases last just so long.
func TestLongOfOneAndOfMaxRes(t *testing.T) {
	for _, long := range []int64{1, api.MaxRes} {
		r := begin(t, wide(), long, 0, node(1, 2, 8))
		r.submit(task(7, 1, 1, 1))
		r.grants("a lease", 7, 1, []int{0})
		r.elapse("one less", long-1, unchanged)
		r.elapse("just so long", 1, func(s *api.State) { unlease(s, 7, api.Pending) })
		r.grants("again", 7, 1, []int{0})
	}
}

func TestElapseOfNothing(t *testing.T) {
	r := home(t)
	r.elapse("no gap", 0, unchanged)
	r.submit(task(7, 1, 1, 1), task(8, 2, 3, 4))
	r.grants("a lease", 7, 1, []int{0})
	r.elapse("no gap, a lease", 0, unchanged)
	r.elapse("one less than the lease lasts", 39, unchanged)
	r.elapse("no gap, at its last time", 0, unchanged)
	r.elapse("one", 1, func(s *api.State) { unlease(s, 7, api.Pending) })
}

func TestElapseRefused(t *testing.T) {
	r := home(t)
	r.submit(task(7, 1, 1, 1))
	r.grants("a lease", 7, 1, []int{0})
	r.stuck("a gap below 0", -1, api.ErrArg)
	r.stuck("the least gap", math.MinInt64, api.ErrArg)
	r.stuck("a great gap", math.MaxInt64, api.ErrOver)
	r.stuck("one more than there is", math.MaxInt64-39, api.ErrOver)
	r.elapse("just as much as there is", math.MaxInt64-40, func(s *api.State) { unlease(s, 7, api.Pending) })
	r.elapse("no gap at the end", 0, unchanged)
	r.stuck("one more at the end", 1, api.ErrOver)
	r.stuck("a great gap at the end", math.MaxInt64, api.ErrOver)
	r.stuck("a gap below 0 at the end", -1, api.ErrArg)
	r.grants("a lease till the end of numbers", 7, 1, []int{0})
	if until := r.s.Leases[0].Until; until != math.MaxInt64 {
		t.Errorf("P11.3: a lease at the end lasts until %d", until)
	}
	r.do("a lease is renewed at the end", renew(1, 1, 1), api.Answer{Node: 1, Leases: r.s.Leases}, func(s *api.State) { s.Nodes[0].Beat = 1 })
}

func TestElapseToTheEndInSteps(t *testing.T) {
	r := begin(t, wide(), api.MaxRes, 0)
	r.elapse("half", math.MaxInt64/2, unchanged)
	r.stuck("more than the other half", math.MaxInt64/2+2, api.ErrOver)
	r.stuck("the other half without Long", math.MaxInt64/2+1-api.MaxRes+1, api.ErrOver)
	r.elapse("the other half less Long", math.MaxInt64/2+1-api.MaxRes, unchanged)
	r.stuck("one", 1, api.ErrOver)
}

// Of several leases those end of which Until is at most Now: just then, and behind it.
func TestSomeLeasesEnd(t *testing.T) {
	r := home(t)
	r.submit(task(3, 1, 1, 1), task(4, 1, 1, 1), task(5, 2, 1, 1), task(6, 2, 1, 1))
	r.grants("at 0", 3, 1, []int{0})
	r.elapse("1", 1, unchanged)
	r.grants("at 1", 5, 1, []int{1})
	r.elapse("2", 1, unchanged)
	r.grants("at 2", 6, 2, []int{0})
	r.elapse("5", 3, unchanged)
	r.grants("at 5", 4, 2, []int{1})
	r.elapse("till the first one has one left", 34, unchanged)
	r.elapse("till the second one's Until, which is Now", 2, func(s *api.State) {
		unlease(s, 3, api.Pending)
		unlease(s, 5, api.Pending)
	})
	r.elapse("just behind the third one's", 1, func(s *api.State) { unlease(s, 6, api.Pending) })
	r.elapse("far behind", 1000, func(s *api.State) { unlease(s, 4, api.Pending) })
}

// A renewed lease ends Long behind its renewal, one that is Stop ends as it was told at first.
func TestRenewedAndStoppedLeasesEnd(t *testing.T) {
	r := home(t)
	r.submit(task(3, 1, 1, 1), task(4, 1, 1, 1), task(5, 1, 1, 1))
	r.grants("a lease", 3, 1, []int{0})
	r.grants("a lease", 4, 1, []int{1})
	r.killed("a leased task", 4)
	r.elapse("time", 30, unchanged)
	r.do("the node's leases", renew(1, 1, 1), api.Answer{Node: 1, Leases: []api.Lease{{Task: 3, Queue: 1, Node: 1, Cores: []int{0}, Mem: 1, Until: 70}}}, func(s *api.State) {
		s.Nodes[0].Beat = 1
		s.Leases[0].Until = 70
	})
	r.elapse("one less", 9, unchanged)
	r.elapse("what is Stop", 1, func(s *api.State) { unlease(s, 4, api.Killed) })
	r.elapse("one less than what was renewed", 29, unchanged)
	r.elapse("what was renewed", 1, func(s *api.State) { unlease(s, 3, api.Pending) })
}

// Hungry is told anew by a Round alone.
func TestElapseLeavesTheRest(t *testing.T) {
	r := begin(t, trio(v(2, 2)), 40, 100, node(1, 1, 8), again(node(3, 1, 0), 5))
	r.submit(task(1, 2, 1, 1), task(2, 1, 1, 1))
	r.elapse("time", 3, unchanged)
	r.grants("the queue without use, of the least number", 2, 1, []int{0}, api.Hunger{Queue: 1, Since: 3})
	r.do("the node starts again", join(again(node(1, 1, 8), 2)), api.Answer{Node: 1}, func(s *api.State) {
		s.Nodes[0].Inc = 2
		unlease(s, 2, api.Pending)
	})
	r.elapse("time goes by, and somebody stays hungry", 50, unchanged)
}

// Of states that no commands made only the first promise holds: Elapse and Apply end.
func TestZeroState(t *testing.T) {
	table.Elapse(api.State{}, 1)
	for kind := -1; kind <= api.Round+1; kind++ {
		table.Apply(api.State{}, api.Command{Kind: kind})
	}
}
