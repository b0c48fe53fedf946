package audit_test

import (
	"slices"
	"testing"

	"furlong/api"
	"furlong/audit"
	"furlong/queue"
)

// worse has something of each other kind be wrong.
func worse(s *api.State) {
	queueOf(s, 0).Quota = v(1, 1)
	nodeOf(s, 1).Mem = 0
	give(s, 11, 6, 0)
	taskOf(s, 12).State = api.Done
	taskOf(s, 14).State = api.Leased
	leaseOf(s, 13).Until = 0
}

func worst() []audit.Problem {
	return []audit.Problem{problem(audit.OverQuota, 0), problem(audit.OverNode, 1), problem(audit.TwoTasks, 1), problem(audit.NoTask, 12), problem(audit.NoLease, 14), problem(audit.Timeless, 13)}
}

func TestKindsInTheirOrder(t *testing.T) {
	s := right()
	worse(&s)
	tells(t, "one of each kind", s, worst()...)
	for what, p := range worst() {
		if p.What != what+2 {
			t.Errorf("the kind %d is %d", what+2, p.What)
		}
	}
	if audit.Form != 1 {
		t.Errorf("the kind Form is %d", audit.Form)
	}
}

// Form stands alone, whatever else is wrong.
func alone(t *testing.T, what string, spoil func(*api.State)) {
	t.Helper()
	s := right()
	spoil(&s)
	tells(t, what, s, problem(audit.Form, 0))
	s = right()
	worse(&s)
	spoil(&s)
	tells(t, what+", and more is wrong", s, problem(audit.Form, 0))
}

func TestQueuesThatAreRefused(t *testing.T) {
	for what, c := range map[string]struct {
		spoil func(*api.State)
		err   api.Errno
	}{
		"no queues":           {func(s *api.State) { s.Queues = nil }, api.ErrForm},
		"no root":             {func(s *api.State) { s.Queues = s.Queues[1:] }, api.ErrForm},
		"a queue twice":       {func(s *api.State) { s.Queues[2].Id = 1 }, api.ErrForm},
		"queues that fall":    {func(s *api.State) { s.Queues[1], s.Queues[2] = s.Queues[2], s.Queues[1] }, api.ErrForm},
		"a queue of no other": {func(s *api.State) { s.Queues[3].Parent = 9 }, api.ErrForm},
		"a Weight of 0":       {func(s *api.State) { s.Queues[1].Weight = 0 }, api.ErrArg},
		"a Quota below 0":     {func(s *api.State) { s.Queues[1].Quota.Mem = -1 }, api.ErrArg},
		"a Min above MaxRes":  {func(s *api.State) { s.Queues[1].Min.CPU = api.MaxRes + 1 }, api.ErrArg},
		"a Min above a Quota": {func(s *api.State) { s.Queues[0].Min, s.Queues[1].Min = v(0, 31), v(0, 31) }, api.ErrQuota},
		"Mins above a Min":    {func(s *api.State) { s.Queues[1].Min = v(1, 0) }, api.ErrQuota},
		"65 queues": {func(s *api.State) {
			for id := 6; len(s.Queues) <= api.MaxQueues; id++ {
				s.Queues = append(s.Queues, q(id, 0, 1, 1))
			}
		}, api.ErrLong},
	} {
		s := right()
		c.spoil(&s)
		if err := queue.Check(s.Queues); err != c.err {
			t.Fatalf("%s: queue.Check = %d; want %d", what, err, c.err)
		}
		alone(t, what, c.spoil)
	}
	s := right()
	for id := 6; len(s.Queues) < api.MaxQueues; id++ {
		s.Queues = append(s.Queues, q(id, 0, 0, 0))
	}
	tells(t, "64 queues", s)
}

// fall changes two elements for each other, twice has one stand behind itself.
func fall[T any](l []T, at int) { l[at], l[at+1] = l[at+1], l[at] }

func twice[T any](l []T, at int) []T { return slices.Insert(slices.Clone(l), at, l[at]) }

func TestListsThatDontRise(t *testing.T) {
	for at := range 2 {
		alone(t, "a node twice", func(s *api.State) { s.Nodes = twice(s.Nodes, at) })
		alone(t, "a hunger twice", func(s *api.State) { s.Hungry = twice(s.Hungry, at) })
	}
	alone(t, "nodes that fall", func(s *api.State) { fall(s.Nodes, 0) })
	alone(t, "hungers that fall", func(s *api.State) { fall(s.Hungry, 0) })
	for at := range 7 {
		alone(t, "a task twice", func(s *api.State) { s.Tasks = twice(s.Tasks, at) })
	}
	for at := range 6 {
		alone(t, "tasks that fall", func(s *api.State) { fall(s.Tasks, at) })
	}
	for at := range 4 {
		alone(t, "a lease twice", func(s *api.State) { s.Leases = twice(s.Leases, at) })
	}
	for at := range 3 {
		alone(t, "leases that fall", func(s *api.State) { fall(s.Leases, at) })
	}
	alone(t, "all lists", func(s *api.State) {
		s.Queues = nil
		fall(s.Nodes, 0)
		fall(s.Tasks, 0)
		fall(s.Leases, 0)
		fall(s.Hungry, 0)
	})
}

// The lists rise by Id, Id, Task and Queue, and by nothing else.
func TestListsRiseByTheirNumbersAlone(t *testing.T) {
	tellAll(t, []change{
		{"nodes' Incs, Beats and cores fall", func(s *api.State) { s.Nodes[1] = api.Node{Id: 3, Cores: 4, Mem: 16, Inc: -5, Beat: -5} }, nil},
		{"tasks' queues fall", func(s *api.State) { taskOf(s, 16).Queue = 1 }, nil},
		{"leases' queues and nodes fall", func(s *api.State) {
			put(s, 10, 5)
			s.Leases[0].Node, s.Leases[2].Node = 3, 1
			give(s, 12, 7, 0, 1)
			give(s, 10, 5, 0, 3)
		}, []audit.Problem{problem(audit.OverQuota, 5)}},
		{"hungers' times fall", func(s *api.State) { s.Hungry[0].Since = 200 }, nil},
		{"who is hungry is no queue", func(s *api.State) { s.Hungry = []api.Hunger{{Queue: -9}, {Queue: 77}} }, nil},
		{"numbers below 0", func(s *api.State) {
			s.Nodes[0].Id = -4
			s.Tasks[0].Id = -4
			s.Leases[0].Task = -4
			s.Leases[0].Node = -4
			s.Leases[1].Node = -4
		}, nil},
	})
}
