package table_test

import (
	"slices"
	"testing"

	"furlong/api"
	"furlong/table"
)

func v(cpu, mem int64) api.Vec { return api.Vec{CPU: cpu, Mem: mem} }

func q(id, parent int, weight int64, quota, min api.Vec) api.Queue {
	return api.Queue{Id: id, Parent: parent, Weight: weight, Quota: quota, Min: min}
}

func node(id, cores int, mem int64) api.Node {
	return api.Node{Id: id, Cores: cores, Mem: mem, Inc: 1}
}

func task(id, queue int, cpu, mem int64) api.Task {
	return api.Task{Id: id, Queue: queue, Need: v(cpu, mem), Tickets: []int{1}}
}

// lease is one of the queue 1, since 0, till 40.
func lease(task, node int, mem int64, cores ...int) api.Lease {
	return api.Lease{Task: task, Queue: 1, Node: node, Cores: cores, Mem: mem, Until: 40}
}

func submit(t api.Task) api.Command    { return api.Command{Kind: api.Submit, Task: t} }
func kill(id int) api.Command          { return api.Command{Kind: api.Kill, Id: id} }
func addQueue(p api.Queue) api.Command { return api.Command{Kind: api.AddQueue, Queue: p} }
func setQueue(p api.Queue) api.Command { return api.Command{Kind: api.SetQueue, Queue: p} }
func dropQueue(id int) api.Command     { return api.Command{Kind: api.DropQueue, Id: id} }
func join(n api.Node) api.Command      { return api.Command{Kind: api.Join, Node: n} }
func part(id int) api.Command          { return api.Command{Kind: api.Part, Id: id} }
func round() api.Command               { return api.Command{Kind: api.Round} }
func renew(id, inc, beat int) api.Command {
	return api.Command{Kind: api.Renew, Id: id, Inc: inc, Beat: beat}
}

func finish(task, node, inc int, since int64) api.Command {
	return api.Command{Kind: api.Finish, Id: task, Inc: inc, Since: since, Node: api.Node{Id: node}}
}

// again is a node that was started for the time inc.
func again(n api.Node, inc int) api.Node {
	n.Inc = inc
	return n
}

// What stands in a state by its number; a test that asks for what isn't there fails by a panic.

func taskOf(s *api.State, id int) *api.Task {
	return &s.Tasks[slices.IndexFunc(s.Tasks, func(t api.Task) bool { return t.Id == id })]
}

func leaseOf(s *api.State, task int) *api.Lease {
	return &s.Leases[slices.IndexFunc(s.Leases, func(l api.Lease) bool { return l.Task == task })]
}

func nodeOf(s *api.State, id int) *api.Node {
	return &s.Nodes[slices.IndexFunc(s.Nodes, func(n api.Node) bool { return n.Id == id })]
}

func queueOf(s *api.State, id int) *api.Queue {
	return &s.Queues[slices.IndexFunc(s.Queues, func(p api.Queue) bool { return p.Id == id })]
}

func sorted(s *api.State) {
	slices.SortFunc(s.Queues, func(a, b api.Queue) int { return a.Id - b.Id })
	slices.SortFunc(s.Nodes, func(a, b api.Node) int { return a.Id - b.Id })
	slices.SortFunc(s.Tasks, func(a, b api.Task) int { return a.Id - b.Id })
	slices.SortFunc(s.Leases, func(a, b api.Lease) int { return a.Task - b.Task })
	slices.SortFunc(s.Hungry, func(a, b api.Hunger) int { return a.Queue - b.Queue })
}

// unlease has a lease be gone, and its task be next.
func unlease(s *api.State, task, next int) {
	s.Leases = slices.DeleteFunc(s.Leases, func(l api.Lease) bool { return l.Task == task })
	taskOf(s, task).State = next
}

// run is a script of commands and times, with the state that they have made.
type run struct {
	t *testing.T
	s api.State
}

func begin(t *testing.T, queues []api.Queue, long, patience int64, nodes ...api.Node) *run {
	t.Helper()
	r := &run{t, created(t, queues, long, patience, api.OK)}
	for _, n := range nodes {
		r.do("a node joins", join(n), api.Answer{Node: n.Id}, func(s *api.State) {
			s.Nodes = append(s.Nodes, n)
		})
	}
	return r
}

// trio is the queues of the document's examples: the queue 1 has this Min.
func trio(min api.Vec) []api.Queue {
	most := v(6, 16)
	return []api.Queue{q(0, -1, 1, most, min), q(1, 0, 1, most, min), q(2, 0, 2, most, v(0, 0))}
}

// home is the cluster of the document's examples.
func home(t *testing.T) *run {
	t.Helper()
	return begin(t, trio(v(0, 0)), 40, 10, node(1, 2, 8), node(2, 4, 8))
}

// wide is a root with the leaf 1, in which anything fits.
func wide() []api.Queue {
	most := v(api.MaxRes, api.MaxRes)
	return []api.Queue{q(0, -1, 1, most, v(0, 0)), q(1, 0, 1, most, v(0, 0))}
}

// created asks New; a New that is refused tells nothing else.
func created(t *testing.T, queues []api.Queue, long, patience int64, err api.Errno) api.State {
	t.Helper()
	given := roomy(queues)
	before := whole(given)
	s, e := table.New(given, long, patience)
	other, _ := table.New(given, long, patience)
	var want api.State
	if err == api.OK {
		want = api.State{Long: long, Patience: patience, Queues: queues}
	}
	if e != err || !same(s, want) || !same(other, want) {
		t.Fatalf("P11.1: New of %v, %d, %d = %v, %d; want %v, %d", queues, long, patience, s, e, want, err)
	}
	unshared(t, "New", []any{&given, &s, &other}, func() bool { return same(whole(given), before) })
	return s
}

// passed asks Elapse twice (P2), with spare room in all that is handed in, and looks at the memory.
func passed(t *testing.T, what string, s api.State, gap int64) (api.State, api.Errno) {
	t.Helper()
	given := roomy(s)
	before := whole(given)
	next, err := table.Elapse(given, gap)
	other, e := table.Elapse(given, gap)
	if !same(next, other) || err != e {
		t.Errorf("P2: %s: Elapse answers %v, %d, then %v, %d", what, next, err, other, e)
	}
	unshared(t, what, []any{&given, &next, &other}, func() bool { return same(whole(given), before) })
	return next, err
}

// applied asks Apply so.
func applied(t *testing.T, what string, s api.State, c api.Command) (api.State, api.Answer) {
	t.Helper()
	given, told := roomy(s), roomy(c)
	before, toldBefore := whole(given), whole(told)
	next, answer := table.Apply(given, told)
	other, second := table.Apply(given, told)
	if !same(next, other) || !same(answer, second) {
		t.Errorf("P2: %s: Apply answers %v, %v, then %v, %v", what, next, answer, other, second)
	}
	unshared(t, what, []any{&given, &told, &next, &answer, &other, &second}, func() bool {
		return same(whole(given), before) && same(whole(told), toldBefore)
	})
	return next, answer
}

// do asks that a command is answered so, and that of the state nothing is another but for the change.
func (r *run) do(what string, c api.Command, want api.Answer, change func(*api.State)) {
	r.t.Helper()
	expected := tidied(r.s)
	change(&expected)
	sorted(&expected)
	next, answer := applied(r.t, what, r.s, c)
	if !same(answer, want) {
		r.t.Fatalf("P11.2: %s: the answer is %v; want %v", what, answer, want)
	}
	if !same(next, expected) {
		r.t.Fatalf("P11.2: %s: the state is\n%v; want\n%v", what, next, expected)
	}
	r.s = next
	sound(r.t, what, r.s)
}

// refused: the state stays, and all of the answer is zero but its Err.
func (r *run) refused(what string, c api.Command, err api.Errno) {
	r.t.Helper()
	r.do(what, c, api.Answer{Err: err}, func(*api.State) {})
}

// elapse asks that of the state nothing is another but Now, and for the change.
func (r *run) elapse(what string, gap int64, change func(*api.State)) {
	r.t.Helper()
	expected := tidied(r.s)
	expected.Now += gap
	change(&expected)
	next, err := passed(r.t, what, r.s, gap)
	if err != api.OK || !same(next, expected) {
		r.t.Fatalf("P11.1: %s: Elapse(%d) answers %d, and\n%v; want\n%v", what, gap, err, next, expected)
	}
	r.s = next
	sound(r.t, what, r.s)
}

func (r *run) stuck(what string, gap int64, err api.Errno) {
	r.t.Helper()
	next, e := passed(r.t, what, r.s, gap)
	if e != err || !same(next, api.State{}) {
		r.t.Fatalf("P11.1: %s: Elapse(%d) = %v, %d; want nothing, %d", what, gap, next, e, err)
	}
}

func unchanged(*api.State) {}

// submit has tasks be Pending.
func (r *run) submit(tasks ...api.Task) {
	r.t.Helper()
	for _, t := range tasks {
		r.do("a task is submitted", submit(t), api.Answer{Task: t.Id}, func(s *api.State) {
			t.State = api.Pending
			s.Tasks = append(s.Tasks, t)
		})
	}
}

// grants asks that a Round gives that lease; hungry is what Hungry is then.
func (r *run) grants(what string, task, node int, cores []int, hungry ...api.Hunger) {
	r.t.Helper()
	r.do(what, round(), api.Answer{Task: task, Node: node, Cores: cores}, func(s *api.State) {
		t := taskOf(s, task)
		t.State = api.Leased
		s.Leases = append(s.Leases, api.Lease{Task: task, Queue: t.Queue, Node: node, Cores: cores, Mem: t.Need.Mem, Since: s.Now, Until: s.Now + s.Long})
		s.Hungry = hungry
	})
}

// stops asks that a Round has a lease be Stop.
func (r *run) stops(what string, task int, hungry ...api.Hunger) {
	r.t.Helper()
	r.do(what, round(), api.Answer{Task: task, Node: -1}, func(s *api.State) {
		leaseOf(s, task).Stop = true
		s.Hungry = hungry
	})
}

// idle asks that a Round does nothing.
func (r *run) idle(what string, hungry ...api.Hunger) {
	r.t.Helper()
	r.do(what, round(), api.Answer{Task: -1, Node: -1}, func(s *api.State) { s.Hungry = hungry })
}

// killed has tasks be Killed.
func (r *run) killed(what string, ids ...int) {
	r.t.Helper()
	for _, id := range ids {
		r.do(what, kill(id), api.Answer{Task: id}, func(s *api.State) {
			t := taskOf(s, id)
			if t.State == api.Leased {
				leaseOf(s, id).Stop = true
			}
			t.State = api.Killed
		})
	}
}

// finished has a leased task be Done.
func (r *run) finished(what string, task, node, inc int, since int64) {
	r.t.Helper()
	r.do(what, finish(task, node, inc, since), api.Answer{Task: task}, func(s *api.State) { unlease(s, task, api.Done) })
}
