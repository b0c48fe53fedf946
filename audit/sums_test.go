package audit_test

import (
	"math"
	"testing"

	"furlong/api"
	"furlong/audit"
)

// laden is a state whose leases have these Mems, on one node, of one leaf, and as many cores as leases.
func laden(mems ...int64) api.State {
	s := api.State{Long: 40, Queues: []api.Queue{q(0, -1, 64, api.MaxRes), q(1, 0, 64, api.MaxRes)}, Nodes: []api.Node{{Id: 1, Cores: 64, Mem: math.MaxInt64}}}
	for at, mem := range mems {
		s.Tasks = append(s.Tasks, task(at, 1, 1, mem, api.Leased))
		l := lease(at, 1, 1, mem, at)
		l.Since, l.Until = 0, 40
		s.Leases = append(s.Leases, l)
	}
	return s
}

// Sums that go round in int64 to what would fit.
func TestSumsThatLeaveInt64(t *testing.T) {
	quota := []audit.Problem{problem(audit.OverQuota, 0), problem(audit.OverQuota, 1)}
	both := append(quota[:2:2], problem(audit.OverNode, 1))
	tells(t, "MaxRes", laden(api.MaxRes-1, 1))
	tells(t, "one above MaxRes", laden(api.MaxRes, 1), quota...)
	tells(t, "the greatest number", laden(math.MaxInt64), quota...)
	tells(t, "the greatest number, of two", laden(math.MaxInt64-1, 1), quota...)
	tells(t, "one above the greatest number", laden(math.MaxInt64, 1), both...)
	tells(t, "what goes round to -2", laden(math.MaxInt64, math.MaxInt64), both...)
	tells(t, "what goes round to 0", laden(math.MaxInt64, math.MaxInt64, 2), both...)
	tells(t, "what goes round to 5", laden(math.MaxInt64, 7, math.MaxInt64), both...)
	tells(t, "what goes round to 1, four times", laden(math.MaxInt64, math.MaxInt64, math.MaxInt64, math.MaxInt64, 5), both...)
	tells(t, "one below the least number", laden(math.MinInt64, -1), both...)
	tells(t, "what goes round from below to 0", laden(math.MinInt64, math.MinInt64), both...)
	tells(t, "the least number", laden(math.MinInt64), problem(audit.OverNode, 1))
}

// A lease of no queue counts for none, so its sums can't leave int64 there.
func TestSumsOfNoQueue(t *testing.T) {
	s := laden(math.MaxInt64, math.MaxInt64, 2)
	for task := range 3 {
		put(&s, task, 2)
	}
	tells(t, "leases of no queue", s, problem(audit.OverNode, 1))
	s = laden(math.MaxInt64, math.MaxInt64, 2)
	s.Nodes = append(s.Nodes, api.Node{Id: 2, Cores: 1}, api.Node{Id: 3, Cores: 64, Mem: math.MaxInt64})
	leaseOf(&s, 1).Node = 3
	tells(t, "leases of two nodes, that fit each", s, problem(audit.OverQuota, 0), problem(audit.OverQuota, 1), problem(audit.OverNode, 1))
	unlease(&s, 2)
	taskOf(&s, 2).State = api.Pending
	tells(t, "leases of two nodes, that fit each", s, problem(audit.OverQuota, 0), problem(audit.OverQuota, 1))
}

// Differences of times that leave int64.
func TestTimesThatLeaveInt64(t *testing.T) {
	for _, c := range []struct {
		now, long, since, until int64
		wrong                   bool
	}{
		{-1, math.MaxInt64, -1, math.MaxInt64 - 1, false},
		{-1, math.MaxInt64, -1, math.MaxInt64, true},
		{math.MinInt64, math.MaxInt64, math.MinInt64, -1, false},
		{math.MinInt64, math.MaxInt64, math.MinInt64, 0, true},
		{math.MinInt64, math.MaxInt64, math.MinInt64, math.MaxInt64, true},
		{math.MinInt64, 40, math.MinInt64, math.MaxInt64, true},
		{math.MinInt64, 40, math.MinInt64, math.MinInt64 + 40, false},
		{math.MinInt64, 40, math.MinInt64, math.MinInt64 + 41, true},
		{math.MinInt64, 40, math.MinInt64, math.MinInt64, true},
		{math.MaxInt64, 40, 0, math.MinInt64, true},
		{math.MaxInt64, 40, 0, math.MaxInt64, true},
		{math.MaxInt64 - 1, 40, math.MinInt64, math.MaxInt64, false},
		{math.MaxInt64 - 40, 40, 0, math.MaxInt64, false},
		{math.MaxInt64 - 40, 39, 0, math.MaxInt64, true},
		{math.MaxInt64 - 40, 40, math.MaxInt64, math.MaxInt64, true},
		{1, 40, 0, math.MinInt64, true},
		{0, 0, 0, 1, true},
		{0, -1, 0, 1, true},
		{0, math.MinInt64, 0, 1, true},
	} {
		s := laden(1)
		s.Now, s.Long, s.Leases[0].Since, s.Leases[0].Until = c.now, c.long, c.since, c.until
		var want []audit.Problem
		if c.wrong {
			want = just(audit.Timeless, 0)
		}
		tells(t, "times at the ends", s, want...)
	}
}
