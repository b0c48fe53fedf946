package audit_test

import (
	"slices"
	"testing"

	"furlong/api"
	"furlong/audit"
)

func v(cpu, mem int64) api.Vec { return api.Vec{CPU: cpu, Mem: mem} }

func q(id, parent int, cpu, mem int64) api.Queue {
	return api.Queue{Id: id, Parent: parent, Weight: 1, Quota: v(cpu, mem)}
}

func task(id, queue int, cpu, mem int64, state int) api.Task {
	return api.Task{Id: id, Queue: queue, Need: v(cpu, mem), Tickets: []int{1, 2}, State: state}
}

func lease(task, queue, node int, mem int64, cores ...int) api.Lease {
	return api.Lease{Task: task, Queue: queue, Node: node, Cores: cores, Mem: mem, Since: 90, Until: 130}
}

// right is a state in which nothing is wrong, with leases of two leaves on two nodes, and tasks in all states.
func right() api.State {
	stopped := lease(12, 5, 3, 7, 0, 3)
	stopped.Stop = true
	return api.State{
		Long: 40, Patience: 10, Now: 100,
		Queues: []api.Queue{q(0, -1, 8, 50), q(1, 0, 5, 30), q(2, 0, 6, 40), q(5, 2, 4, 25)},
		Nodes:  []api.Node{{Id: 1, Cores: 4, Mem: 20, Inc: 1}, {Id: 3, Cores: 4, Mem: 30, Inc: 2, Beat: 7}},
		Tasks: []api.Task{
			task(10, 1, 2, 5, api.Leased), task(11, 5, 1, 6, api.Leased), task(12, 5, 2, 7, api.Killed), task(13, 1, 1, 9, api.Leased),
			task(14, 1, 1, 1, api.Pending), task(15, 5, 1, 1, api.Done), task(16, 5, 1, 1, api.Killed),
		},
		Leases: []api.Lease{lease(10, 1, 1, 5, 0, 1), lease(11, 5, 1, 6, 2), stopped, lease(13, 1, 3, 9, 1)},
		Hungry: []api.Hunger{{Queue: 1, Since: 95}, {Queue: 5, Since: 100}},
	}
}

// What stands in a state by its number; a test that asks for what isn't there fails by a panic.

func queueOf(s *api.State, id int) *api.Queue {
	return &s.Queues[slices.IndexFunc(s.Queues, func(q api.Queue) bool { return q.Id == id })]
}

func nodeOf(s *api.State, id int) *api.Node {
	return &s.Nodes[slices.IndexFunc(s.Nodes, func(n api.Node) bool { return n.Id == id })]
}

func taskOf(s *api.State, id int) *api.Task {
	return &s.Tasks[slices.IndexFunc(s.Tasks, func(t api.Task) bool { return t.Id == id })]
}

func leaseOf(s *api.State, task int) *api.Lease {
	return &s.Leases[slices.IndexFunc(s.Leases, func(l api.Lease) bool { return l.Task == task })]
}

// unlease has a lease be gone.
func unlease(s *api.State, task int) {
	s.Leases = slices.DeleteFunc(s.Leases, func(l api.Lease) bool { return l.Task == task })
}

// give has a lease have these cores and this Mem, and its task need so much.
func give(s *api.State, task int, mem int64, cores ...int) {
	l := leaseOf(s, task)
	l.Cores, l.Mem = cores, mem
	taskOf(s, task).Need = v(int64(len(cores)), mem)
}

// put has a lease and its task be of another queue.
func put(s *api.State, task, queue int) {
	leaseOf(s, task).Queue = queue
	taskOf(s, task).Queue = queue
}

func problem(what, id int) audit.Problem { return audit.Problem{What: what, Id: id} }

// asked asks twice (P2), with spare room in all that is handed in, and looks at the memory.
func asked(t *testing.T, what string, s api.State) []audit.Problem {
	t.Helper()
	given := roomy(s)
	before := whole(given)
	got := audit.Check(given)
	again := audit.Check(given)
	if !slices.Equal(got, again) {
		t.Errorf("P2: %s: Check = %v, then %v", what, got, again)
	}
	told := slices.Clone(got)
	clear(again[:cap(again)])
	if !slices.Equal(got, told) {
		t.Errorf("memory: %s: two answers of Check share some", what)
	}
	if !same(whole(given), before) {
		t.Errorf("memory: %s: Check changes what is handed in", what)
	}
	return told
}

func tells(t *testing.T, what string, s api.State, want ...audit.Problem) {
	t.Helper()
	if got := asked(t, what, s); !slices.Equal(got, want) {
		t.Errorf("P12.1: %s: Check = %v; want %v", what, got, want)
	}
}

// change is what is done to a state in which nothing is wrong, and what is wrong in it then.
type change struct {
	name string
	do   func(s *api.State)
	want []audit.Problem
}

func tellAll(t *testing.T, changes []change) {
	t.Helper()
	for _, c := range changes {
		s := right()
		c.do(&s)
		tells(t, c.name, s, c.want...)
	}
}

func just(what, id int) []audit.Problem { return []audit.Problem{problem(what, id)} }
