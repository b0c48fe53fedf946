package audit_test

import (
	"math"
	"testing"

	"furlong/api"
	"furlong/audit"
)

func TestNothingIsWrong(t *testing.T) {
	tells(t, "a state in which nothing is wrong", right())
	tells(t, "the root alone", api.State{Queues: []api.Queue{q(0, -1, 0, 0)}})
	none := right()
	none.Leases = nil
	taskOf(&none, 10).State, taskOf(&none, 11).State, taskOf(&none, 13).State = api.Pending, api.Done, api.Pending
	tells(t, "no leases", none)
}

// Of right's leases the queue 1 has (3, 14), the queue 5 has (3, 13), so has 2; the root has (6, 27).
func TestOverQuota(t *testing.T) {
	tellAll(t, []change{
		{"just all of a leaf's quota", func(s *api.State) { queueOf(s, 1).Quota = v(3, 14) }, nil},
		{"a core more than a leaf's quota", func(s *api.State) { queueOf(s, 1).Quota = v(2, 14) }, just(audit.OverQuota, 1)},
		{"memory more than a leaf's quota", func(s *api.State) { queueOf(s, 1).Quota = v(3, 13) }, just(audit.OverQuota, 1)},
		{"just all of a deep leaf's quota", func(s *api.State) { queueOf(s, 5).Quota = v(3, 13) }, nil},
		{"a core more than a deep leaf's quota", func(s *api.State) { queueOf(s, 5).Quota = v(2, 13) }, just(audit.OverQuota, 5)},
		{"memory more than a deep leaf's quota", func(s *api.State) { queueOf(s, 5).Quota = v(3, 12) }, just(audit.OverQuota, 5)},
		{"just all of a parent's quota", func(s *api.State) { queueOf(s, 2).Quota = v(3, 13) }, nil},
		{"a core more than a parent's quota", func(s *api.State) { queueOf(s, 2).Quota = v(2, 13) }, just(audit.OverQuota, 2)},
		{"memory more than a parent's quota", func(s *api.State) { queueOf(s, 2).Quota = v(3, 12) }, just(audit.OverQuota, 2)},
		{"just all of the root's quota", func(s *api.State) { queueOf(s, 0).Quota = v(6, 27) }, nil},
		{"a core more than the root's quota", func(s *api.State) { queueOf(s, 0).Quota = v(5, 27) }, just(audit.OverQuota, 0)},
		{"memory more than the root's quota", func(s *api.State) { queueOf(s, 0).Quota = v(6, 26) }, just(audit.OverQuota, 0)},
		{"the quotas of all", func(s *api.State) {
			for at := range s.Queues {
				s.Queues[at].Quota = v(2, 50)
			}
		}, []audit.Problem{problem(audit.OverQuota, 0), problem(audit.OverQuota, 1), problem(audit.OverQuota, 2), problem(audit.OverQuota, 5)}},
	})
}

func TestQueuesThatCount(t *testing.T) {
	move := func(queue int) func(*api.State) {
		return func(s *api.State) {
			for _, task := range []int{10, 11, 12, 13} {
				put(s, task, queue)
			}
			queueOf(s, 1).Quota, queueOf(s, 5).Quota = v(0, 0), v(0, 0)
		}
	}
	tellAll(t, []change{
		{"leases of the root are not its children's", func(s *api.State) {
			move(0)(s)
			queueOf(s, 0).Quota, queueOf(s, 2).Quota = v(6, 27), v(0, 0)
		}, nil},
		{"leases of the root are the root's", func(s *api.State) {
			move(0)(s)
			queueOf(s, 0).Quota = v(5, 27)
		}, just(audit.OverQuota, 0)},
		{"leases of a parent are not its child's", func(s *api.State) {
			move(2)(s)
			queueOf(s, 2).Quota = v(6, 27)
		}, nil},
		{"leases of a parent are its own", func(s *api.State) {
			move(2)(s)
			queueOf(s, 2).Quota = v(6, 26)
		}, just(audit.OverQuota, 2)},
		{"leases of no queue", func(s *api.State) {
			move(9)(s)
			queueOf(s, 0).Quota, queueOf(s, 2).Quota = v(0, 0), v(0, 0)
		}, nil},
		{"leases of a queue below 0", func(s *api.State) {
			move(-1)(s)
			queueOf(s, 0).Quota, queueOf(s, 2).Quota = v(0, 0), v(0, 0)
		}, nil},
		{"a lease of no queue with too much memory", func(s *api.State) {
			move(9)(s)
			give(s, 10, math.MaxInt64, 0, 1)
		}, just(audit.OverNode, 1)},
	})
}

// Of right's leases the node 1 has the Mem 11, the node 3 has 16.
func TestOverNode(t *testing.T) {
	tellAll(t, []change{
		{"just all of a node's Mem", func(s *api.State) { nodeOf(s, 1).Mem = 11 }, nil},
		{"more than a node's Mem", func(s *api.State) { nodeOf(s, 1).Mem = 10 }, just(audit.OverNode, 1)},
		{"more than the last node's Mem", func(s *api.State) { nodeOf(s, 3).Mem = 15 }, just(audit.OverNode, 3)},
		{"just all of the last node's Mem", func(s *api.State) { nodeOf(s, 3).Mem = 16 }, nil},
		{"the last core", func(s *api.State) { give(s, 11, 6, 3) }, nil},
		{"a core behind the last one", func(s *api.State) { give(s, 11, 6, 4) }, just(audit.OverNode, 1)},
		{"a core below 0", func(s *api.State) { give(s, 11, 6, -1) }, just(audit.OverNode, 1)},
		{"a core behind the last one, among others", func(s *api.State) { give(s, 10, 5, 0, 4) }, just(audit.OverNode, 1)},
		{"a core below 0, among others", func(s *api.State) { give(s, 10, 5, -1, 1) }, just(audit.OverNode, 1)},
		{"the greatest and the least core", func(s *api.State) { give(s, 10, 5, math.MinInt64, math.MaxInt64) }, just(audit.OverNode, 1)},
		{"one core less on the node", func(s *api.State) { nodeOf(s, 3).Cores = 3 }, just(audit.OverNode, 3)},
		{"no cores on the node", func(s *api.State) { nodeOf(s, 1).Cores = 0 }, just(audit.OverNode, 1)},
		{"a lease without cores", func(s *api.State) { give(s, 11, 6) }, just(audit.OverNode, 1)},
		{"a lease with a list of no cores", func(s *api.State) { give(s, 11, 6, []int{}...) }, just(audit.OverNode, 1)},
		{"the same core twice", func(s *api.State) { give(s, 10, 5, 1, 1) }, just(audit.OverNode, 1)},
		{"the same core twice, with another one between", func(s *api.State) { give(s, 12, 7, 0, 3, 0) }, just(audit.OverNode, 3)},
		{"cores that fall", func(s *api.State) { give(s, 10, 5, 1, 0) }, nil},
		{"a Mem of 0", func(s *api.State) { give(s, 11, 0, 2) }, nil},
		{"a Mem below 0", func(s *api.State) { give(s, 11, -1, 2) }, just(audit.OverNode, 1)},
		{"a Mem below 0 on the last node", func(s *api.State) { give(s, 13, -1, 1) }, just(audit.OverNode, 3)},
		{"both nodes", func(s *api.State) {
			give(s, 11, -1, 2)
			nodeOf(s, 3).Mem = 15
		}, []audit.Problem{problem(audit.OverNode, 1), problem(audit.OverNode, 3)}},
		{"several things on one node", func(s *api.State) {
			give(s, 10, -5, 0, 0)
			give(s, 11, 60, 7)
			nodeOf(s, 1).Mem = 11
			queueOf(s, 5).Quota, queueOf(s, 2).Quota, queueOf(s, 0).Quota = v(9, 99), v(9, 99), v(9, 99)
		}, just(audit.OverNode, 1)},
	})
}

func TestTwoTasks(t *testing.T) {
	tellAll(t, []change{
		{"a core in two leases", func(s *api.State) { give(s, 11, 6, 1) }, just(audit.TwoTasks, 1)},
		{"a core in two leases, as the first one", func(s *api.State) { give(s, 11, 6, 0) }, just(audit.TwoTasks, 1)},
		{"a core in two leases of the last node", func(s *api.State) { give(s, 13, 9, 3) }, just(audit.TwoTasks, 3)},
		{"a core in two leases of one queue", func(s *api.State) {
			put(s, 11, 1)
			give(s, 11, 6, 1)
		}, just(audit.TwoTasks, 1)},
		{"a core in a lease that is Stop and in another one", func(s *api.State) { give(s, 13, 9, 0) }, just(audit.TwoTasks, 3)},
		{"two cores in two leases", func(s *api.State) { give(s, 11, 6, 0, 1) }, just(audit.TwoTasks, 1)},
		{"a core of one number on two nodes", func(s *api.State) { give(s, 13, 9, 2) }, nil},
		{"a core twice in one lease alone", func(s *api.State) { give(s, 10, 5, 3, 3) }, just(audit.OverNode, 1)},
		{"a core twice in one lease, and in another one", func(s *api.State) { give(s, 10, 5, 2, 2) },
			[]audit.Problem{problem(audit.OverNode, 1), problem(audit.TwoTasks, 1)}},
		{"a core outside the node's in two leases", func(s *api.State) {
			give(s, 10, 5, 0, 4)
			give(s, 11, 6, 4)
		}, []audit.Problem{problem(audit.OverNode, 1), problem(audit.TwoTasks, 1)}},
		{"cores in two leases on both nodes", func(s *api.State) {
			give(s, 11, 6, 0)
			give(s, 13, 9, 0)
		}, []audit.Problem{problem(audit.TwoTasks, 1), problem(audit.TwoTasks, 3)}},
		{"a lease comes to the other node, to cores that are taken there", func(s *api.State) { leaseOf(s, 10).Node = 3 }, just(audit.TwoTasks, 3)},
	})
}

func TestNoTask(t *testing.T) {
	state := func(x int) func(*api.State) {
		return func(s *api.State) { taskOf(s, 10).State = x }
	}
	tellAll(t, []change{
		{"a lease on no node", func(s *api.State) { leaseOf(s, 10).Node = 2 }, just(audit.NoTask, 10)},
		{"a lease on no node, below all", func(s *api.State) { leaseOf(s, 11).Node = -1 }, just(audit.NoTask, 11)},
		{"a lease on no node, above all", func(s *api.State) { leaseOf(s, 13).Node = 4 }, just(audit.NoTask, 13)},
		{"no first task", func(s *api.State) { s.Tasks = s.Tasks[1:] }, just(audit.NoTask, 10)},
		{"no tasks", func(s *api.State) { s.Tasks = nil }, []audit.Problem{
			problem(audit.NoTask, 10), problem(audit.NoTask, 11), problem(audit.NoTask, 12), problem(audit.NoTask, 13)}},
		{"a lease behind all tasks", func(s *api.State) {
			s.Leases = append(s.Leases, lease(17, 1, 1, 1, 3))
		}, just(audit.NoTask, 17)},
		{"a task that is Pending", state(api.Pending), just(audit.NoTask, 10)},
		{"a task that is Leased", state(api.Leased), nil},
		{"a task that is Done", state(api.Done), just(audit.NoTask, 10)},
		{"a task that is Killed", state(api.Killed), nil},
		{"a task of the State 0", state(0), just(audit.NoTask, 10)},
		{"a task of the State 5", state(5), just(audit.NoTask, 10)},
		{"a task of a State below 0", state(-2), just(audit.NoTask, 10)},
		{"a task of another queue", func(s *api.State) { taskOf(s, 10).Queue = 5 }, just(audit.NoTask, 10)},
		{"a killed task of another queue", func(s *api.State) { taskOf(s, 12).Queue = 1 }, just(audit.NoTask, 12)},
		{"a core more than the task needs", func(s *api.State) { taskOf(s, 10).Need.CPU-- }, just(audit.NoTask, 10)},
		{"a core less than the task needs", func(s *api.State) { taskOf(s, 10).Need.CPU++ }, just(audit.NoTask, 10)},
		{"memory more than the task needs", func(s *api.State) { taskOf(s, 10).Need.Mem-- }, just(audit.NoTask, 10)},
		{"memory less than the task needs", func(s *api.State) { taskOf(s, 10).Need.Mem++ }, just(audit.NoTask, 10)},
		{"all at once", func(s *api.State) {
			*taskOf(s, 10) = task(10, 5, 7, 7, api.Done)
			leaseOf(s, 10).Node = 2
		}, just(audit.NoTask, 10)},
		{"a task's Work and Tickets are its own", func(s *api.State) { taskOf(s, 10).Work, taskOf(s, 10).Tickets = -1, nil }, nil},
	})
	tells(t, "example 1", func() api.State {
		s := api.State{Long: 40, Queues: []api.Queue{q(0, -1, 6, 16)}, Nodes: []api.Node{{Id: 1, Cores: 2, Mem: 8}}}
		s.Leases = []api.Lease{{Task: 7, Node: 1, Cores: []int{0}, Mem: 1, Until: 40}}
		return s
	}(), problem(5, 7))
}

func TestNoLease(t *testing.T) {
	tellAll(t, []change{
		{"a task without its lease", func(s *api.State) { unlease(s, 10) }, just(audit.NoLease, 10)},
		{"the last one without its lease", func(s *api.State) { unlease(s, 13) }, just(audit.NoLease, 13)},
		{"a killed task without its lease", func(s *api.State) { unlease(s, 12) }, nil},
		{"all tasks without leases", func(s *api.State) { s.Leases = nil },
			[]audit.Problem{problem(audit.NoLease, 10), problem(audit.NoLease, 11), problem(audit.NoLease, 13)}},
		{"one that waited", func(s *api.State) { taskOf(s, 14).State = api.Leased }, just(audit.NoLease, 14)},
		{"one that was done", func(s *api.State) { taskOf(s, 15).State = api.Leased }, just(audit.NoLease, 15)},
		{"the last one of all", func(s *api.State) { taskOf(s, 16).State = api.Leased }, just(audit.NoLease, 16)},
		{"a lease that is another task's", func(s *api.State) { leaseOf(s, 13).Task = 14 },
			[]audit.Problem{problem(audit.NoTask, 14), problem(audit.NoLease, 13)}},
		{"a lease that is wrong in all else", func(s *api.State) {
			l := leaseOf(s, 10)
			l.Queue, l.Node = 9, 9
		}, just(audit.NoTask, 10)},
	})
}

// Now is 100, and Long is 40.
func TestTimeless(t *testing.T) {
	until := func(x int64) func(*api.State) {
		return func(s *api.State) { leaseOf(s, 11).Until = x }
	}
	since := func(x int64) func(*api.State) {
		return func(s *api.State) { leaseOf(s, 13).Since = x }
	}
	late := just(audit.Timeless, 11)
	tellAll(t, []change{
		{"Until is Now", until(100), late},
		{"Until is one above Now", until(101), nil},
		{"Until is one below Now", until(99), late},
		{"Until is 0", until(0), late},
		{"Until is Now + Long", until(140), nil},
		{"Until is one above Now + Long", until(141), late},
		{"Until is the greatest number", until(math.MaxInt64), late},
		{"Until is the least number", until(math.MinInt64), late},
		{"Since is Now", since(100), nil},
		{"Since is one above Now", since(101), just(audit.Timeless, 13)},
		{"Since is the greatest number", since(math.MaxInt64), just(audit.Timeless, 13)},
		{"Since is below 0", since(-1), nil},
		{"Since is the least number", since(math.MinInt64), nil},
		{"a lease that is Stop", func(s *api.State) { leaseOf(s, 12).Until = 100 }, just(audit.Timeless, 12)},
		{"both", func(s *api.State) { leaseOf(s, 10).Since, leaseOf(s, 10).Until = 101, 100 }, just(audit.Timeless, 10)},
		{"all leases", func(s *api.State) { s.Now = 130 }, []audit.Problem{
			problem(audit.Timeless, 10), problem(audit.Timeless, 11), problem(audit.Timeless, 12), problem(audit.Timeless, 13)}},
		{"the first and the last lease", func(s *api.State) { leaseOf(s, 10).Until, leaseOf(s, 13).Since = 141, 101 },
			[]audit.Problem{problem(audit.Timeless, 10), problem(audit.Timeless, 13)}},
		{"Long is 30", func(s *api.State) { s.Long = 30 }, nil},
		{"Long is 29", func(s *api.State) { s.Long, s.Leases = 29, s.Leases[:1] }, []audit.Problem{
			problem(audit.NoLease, 11), problem(audit.NoLease, 13), problem(audit.Timeless, 10)}},
	})
}
