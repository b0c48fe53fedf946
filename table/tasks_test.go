package table_test

import (
	"math"
	"testing"

	"furlong/api"
	"furlong/table"
)

// tickets is n times x.
func tickets(n, x int) []int {
	l := make([]int, n)
	for i := range l {
		l[i] = x
	}
	return l
}

func TestSubmit(t *testing.T) {
	r := home(t)
	all := api.Task{Id: 7, Queue: 2, Need: v(3, 4), Work: 9, Tickets: []int{3, 1, 16}}
	r.submit(all, task(9, 1, 1, 1), task(8, 1, 6, 16), task(0, 2, 1, 0), task(math.MaxInt, 1, 1, 1))
	want := all
	want.State = api.Pending
	if len(r.s.Tasks) != 5 || !same(r.s.Tasks[1], want) || r.s.Tasks[4].Id != math.MaxInt {
		t.Errorf("P11.2: the tasks are %v", r.s.Tasks)
	}
}

// edges is tasks of which one thing stands at its end each; beyond is those where it stands one beyond.
func edges() (map[string]func(*api.Task), map[string]func(*api.Task)) {
	at := map[string]func(*api.Task){
		"one core":           func(t *api.Task) { t.Need.CPU = 1 },
		"MaxCores":           func(t *api.Task) { t.Need.CPU = api.MaxCores },
		"no memory":          func(t *api.Task) { t.Need.Mem = 0 },
		"MaxRes of memory":   func(t *api.Task) { t.Need.Mem = api.MaxRes },
		"no Work":            func(t *api.Task) { t.Work = 0 },
		"MaxRes of Work":     func(t *api.Task) { t.Work = api.MaxRes },
		"a ticket":           func(t *api.Task) { t.Tickets = []int{1} },
		"MaxTickets":         func(t *api.Task) { t.Tickets = []int{api.MaxTickets} },
		"MaxThreads":         func(t *api.Task) { t.Tickets = tickets(api.MaxThreads, 1) },
		"MaxThreads of them": func(t *api.Task) { t.Tickets = tickets(api.MaxThreads, api.MaxTickets) },
		"the Id 0":           func(t *api.Task) { t.Id = 0 },
		"the greatest Id":    func(t *api.Task) { t.Id = math.MaxInt },
	}
	beyond := map[string]func(*api.Task){
		"an Id below 0":            func(t *api.Task) { t.Id = -1 },
		"the least Id":             func(t *api.Task) { t.Id = math.MinInt },
		"no cores":                 func(t *api.Task) { t.Need.CPU = 0 },
		"cores below 0":            func(t *api.Task) { t.Need.CPU = -1 },
		"more than MaxCores":       func(t *api.Task) { t.Need.CPU = api.MaxCores + 1 },
		"memory below 0":           func(t *api.Task) { t.Need.Mem = -1 },
		"more memory than MaxRes":  func(t *api.Task) { t.Need.Mem = api.MaxRes + 1 },
		"Work below 0":             func(t *api.Task) { t.Work = -1 },
		"more Work than MaxRes":    func(t *api.Task) { t.Work = api.MaxRes + 1 },
		"no Tickets":               func(t *api.Task) { t.Tickets = nil },
		"an empty list of Tickets": func(t *api.Task) { t.Tickets = []int{} },
		"more than MaxThreads":     func(t *api.Task) { t.Tickets = tickets(api.MaxThreads+1, 1) },
		"0 tickets":                func(t *api.Task) { t.Tickets = []int{0} },
		"0 tickets at the end":     func(t *api.Task) { t.Tickets = []int{1, 2, 0} },
		"0 tickets ahead":          func(t *api.Task) { t.Tickets = []int{0, 2, 1} },
		"tickets below 0":          func(t *api.Task) { t.Tickets = []int{3, -1, 3} },
		"more than MaxTickets":     func(t *api.Task) { t.Tickets = []int{api.MaxTickets + 1} },
		"more of them at the end":  func(t *api.Task) { t.Tickets = []int{1, api.MaxTickets + 1} },
		"the State Pending":        func(t *api.Task) { t.State = api.Pending },
		"the State Done":           func(t *api.Task) { t.State = api.Done },
		"a State below 0":          func(t *api.Task) { t.State = -1 },
	}
	return at, beyond
}

func TestSubmitAtTheEdges(t *testing.T) {
	at, beyond := edges()
	r := begin(t, wide(), 40, 10)
	for _, change := range at {
		x := task(5, 1, 2, 3)
		change(&x)
		alone := &run{t, r.s}
		alone.submit(x)
	}
	for name, change := range beyond {
		x := task(5, 1, 2, 3)
		change(&x)
		r.refused(name, submit(x), api.ErrArg)
	}
}

// Of several errors the first one of the table is told.
func TestSubmitErrorsInOrder(t *testing.T) {
	r := begin(t, trio(v(0, 0)), 40, 10)
	r.submit(task(5, 1, 1, 1))
	_, beyond := edges()
	for name, change := range beyond {
		for _, queue := range []int{1, 0, 9} {
			x := task(5, queue, 7, 1)
			change(&x)
			r.refused(name+", and all else is wrong", submit(x), api.ErrArg)
		}
	}
	r.refused("the Id is there", submit(task(5, 1, 1, 1)), api.ErrExists)
	r.refused("the Id is there, of another queue", submit(task(5, 2, 2, 2)), api.ErrExists)
	r.refused("the Id is there, and there is no such queue", submit(task(5, 9, 1, 1)), api.ErrExists)
	r.refused("the Id is there, and the queue is no leaf", submit(task(5, 0, 1, 1)), api.ErrExists)
	r.refused("the Id is there, and it doesn't fit", submit(task(5, 1, 7, 1)), api.ErrExists)
	r.refused("no such queue", submit(task(6, 9, 1, 1)), api.ErrNone)
	r.refused("a queue below 0", submit(task(6, -1, 1, 1)), api.ErrNone)
	r.refused("no such queue, and it doesn't fit", submit(task(6, 9, 64, api.MaxRes)), api.ErrNone)
	r.refused("no leaf", submit(task(6, 0, 1, 1)), api.ErrLeaf)
	r.refused("no leaf, and it doesn't fit", submit(task(6, 0, 7, 1)), api.ErrLeaf)
	r.refused("too many cores", submit(task(6, 1, 7, 1)), api.ErrQuota)
	r.refused("too much memory", submit(task(6, 2, 1, 17)), api.ErrQuota)
	r.submit(task(6, 1, 6, 16))
	r.killed("a task, which stays", 5)
	r.refused("the Id of a killed task", submit(task(5, 1, 1, 1)), api.ErrExists)
}

// The need must fit in the Quota of each queue of the path, whatever is used.
func TestSubmitQuotas(t *testing.T) {
	for _, low := range []int{0, 1, 2} {
		queues := []api.Queue{q(0, -1, 1, v(9, 9), v(0, 0)), q(1, 0, 1, v(9, 9), v(0, 0)), q(2, 1, 1, v(9, 9), v(0, 0)), q(3, 0, 1, v(0, 0), v(0, 0))}
		queues[low].Quota = v(4, 5)
		r := begin(t, queues, 40, 10, node(1, 8, 8))
		r.refused("one core above the Quota", submit(task(1, 2, 5, 5)), api.ErrQuota)
		r.refused("one of memory above the Quota", submit(task(1, 2, 4, 6)), api.ErrQuota)
		r.refused("a queue without Quota", submit(task(1, 3, 1, 0)), api.ErrQuota)
		r.submit(task(1, 2, 4, 5))
		r.grants("all of the Quota", 1, 1, []int{0, 1, 2, 3})
		r.submit(task(2, 2, 4, 5))
		r.idle("no room")
	}
}

func TestSubmitMaxTasks(t *testing.T) {
	r := home(t)
	for id := range api.MaxTasks - 3 {
		s, a := table.Apply(r.s, submit(task(2*id+1, 1, 1, 1)))
		if a.Err != api.OK || len(s.Tasks) != id+1 {
			t.Fatalf("P11.2: task %d: %v", id, a)
		}
		r.s = s
	}
	r.grants("a lease", 1, 1, []int{0})
	r.finished("a task", 1, 1, 1, 0)
	r.killed("a task", 3)
	r.submit(task(0, 2, 1, 1), task(4, 2, 1, 1), task(9999, 1, 1, 1))
	if len(r.s.Tasks) != api.MaxTasks {
		t.Fatalf("P11.2: there are %d tasks", len(r.s.Tasks))
	}
	r.refused("one more", submit(task(2, 1, 1, 1)), api.ErrFull)
	r.refused("one more, of no queue", submit(task(2, 9, 1, 1)), api.ErrFull)
	r.refused("one more, of no leaf", submit(task(2, 0, 1, 1)), api.ErrFull)
	r.refused("one more, that doesn't fit", submit(task(2, 1, 7, 1)), api.ErrFull)
	r.refused("one that is there", submit(task(9999, 1, 1, 1)), api.ErrExists)
	r.refused("one that is Done", submit(task(1, 1, 1, 1)), api.ErrExists)
	r.refused("one that is Killed", submit(task(3, 1, 1, 1)), api.ErrExists)
	bad := task(2, 1, 1, 1)
	bad.Tickets = nil
	r.refused("one more, without tickets", submit(bad), api.ErrArg)
	r.grants("the first one that waits", 5, 1, []int{0})
	r.grants("the other queue's", 0, 1, []int{1})
	r.elapse("the leases end", 40, func(s *api.State) {
		unlease(s, 5, api.Pending)
		unlease(s, 0, api.Pending)
	})
}

func TestKill(t *testing.T) {
	r := home(t)
	r.submit(task(3, 1, 1, 1), task(4, 1, 1, 1), task(5, 2, 1, 1))
	r.grants("a lease", 3, 1, []int{0})
	r.refused("no such task", kill(6), api.ErrNone)
	r.refused("no such task below 0", kill(-1), api.ErrNone)
	r.killed("a task that waits", 4)
	r.refused("again", kill(4), api.ErrState)
	r.killed("a task that is leased", 3)
	r.refused("again, while its lease lasts", kill(3), api.ErrState)
	r.grants("the one that is left", 5, 1, []int{1})
	r.elapse("time", 5, unchanged)
	r.finished("it", 5, 1, 1, 0)
	r.refused("a task that is Done", kill(5), api.ErrState)
	r.idle("all are killed or done")
}

// A killed task's lease holds its cores till it ends; it isn't renewed, and the task stays Killed.
func TestKilledTasksLeaseEnds(t *testing.T) {
	r := begin(t, wide(), 40, 10, node(1, 2, 8))
	r.submit(task(3, 1, 2, 1))
	r.grants("a lease", 3, 1, []int{0, 1})
	r.killed("it", 3)
	r.submit(task(4, 1, 1, 1))
	r.idle("its cores aren't free yet")
	r.elapse("time", 20, unchanged)
	r.do("nothing is renewed", renew(1, 1, 1), api.Answer{Node: 1}, func(s *api.State) { s.Nodes[0].Beat = 1 })
	r.refused("the node in use", part(1), api.ErrUse)
	r.elapse("time, till it has one left", 19, unchanged)
	r.idle("its cores aren't free yet")
	r.elapse("time, till its end", 1, func(s *api.State) { unlease(s, 3, api.Killed) })
	r.grants("its cores are free", 4, 1, []int{0})
}

func TestKilledTaskIsFinished(t *testing.T) {
	r := home(t)
	r.submit(task(3, 1, 1, 1))
	r.grants("a lease", 3, 1, []int{0})
	r.killed("it", 3)
	r.do("its lease is gone, but it stays Killed", finish(3, 1, 1, 0), api.Answer{Task: 3}, func(s *api.State) { unlease(s, 3, api.Killed) })
	r.refused("again", finish(3, 1, 1, 0), api.ErrNone)
	r.refused("killed again", kill(3), api.ErrState)
	r.do("the node parts", part(1), api.Answer{Node: 1}, func(s *api.State) { s.Nodes = s.Nodes[1:] })
}

// A lease that is Stop already stays so.
func TestKillOfAVictim(t *testing.T) {
	r := begin(t, trio(v(1, 1)), 40, 0, node(1, 1, 8))
	r.submit(task(5, 2, 1, 1))
	r.grants("a lease", 5, 1, []int{0})
	r.submit(task(6, 1, 1, 1))
	r.stops("the queue 1 is hungry", 5, api.Hunger{Queue: 1, Since: 0})
	r.do("the victim is killed", kill(5), api.Answer{Task: 5}, func(s *api.State) { s.Tasks[0].State = api.Killed })
	r.elapse("its lease ends", 40, func(s *api.State) { unlease(s, 5, api.Killed) })
}

func TestFinish(t *testing.T) {
	r := home(t)
	r.elapse("time", 3, unchanged)
	r.submit(task(3, 1, 1, 1), task(4, 1, 1, 1), task(5, 1, 3, 1))
	r.grants("a lease", 3, 1, []int{0})
	r.elapse("time", 3, unchanged)
	r.grants("a lease", 4, 1, []int{1})
	for _, c := range []struct {
		name string
		c    api.Command
		err  api.Errno
	}{
		{"no such task", finish(9, 1, 1, 3), api.ErrNone},
		{"a task below 0", finish(-1, 1, 1, 3), api.ErrNone},
		{"a task without a lease", finish(5, 1, 1, 3), api.ErrNone},
		{"on another node", finish(3, 2, 1, 3), api.ErrNone},
		{"on no node", finish(3, 9, 1, 3), api.ErrNone},
		{"on another node, of another Inc and Since", finish(3, 2, 2, 4), api.ErrNone},
		{"of an elder Inc", finish(3, 1, 0, 3), api.ErrStale},
		{"of a newer Inc", finish(3, 1, 2, 3), api.ErrStale},
		{"of an elder Since", finish(4, 1, 1, 3), api.ErrStale},
		{"of a newer Since", finish(3, 1, 1, 6), api.ErrStale},
		{"of a Since one less", finish(3, 1, 1, 2), api.ErrStale},
	} {
		r.refused(c.name, c.c, c.err)
	}
	other := finish(3, 1, 1, 3)
	other.Node = api.Node{Id: 1, Cores: 9, Mem: -1, Inc: 7, Beat: 5}
	other.Beat, other.Queue, other.Task = 9, api.Queue{Id: 77}, api.Task{Id: 78}
	r.do("the fields that don't count are others", other, api.Answer{Task: 3}, func(s *api.State) { unlease(s, 3, api.Done) })
	r.refused("again", finish(3, 1, 1, 3), api.ErrNone)
	r.finished("the other one", 4, 1, 1, 6)
}

// A finish of an elder lease of the same task, or of the node's elder Inc, is told apart.
func TestFinishOfAnElderLease(t *testing.T) {
	r := begin(t, wide(), 40, 10, node(1, 1, 8))
	r.submit(task(3, 1, 1, 1))
	r.grants("a lease", 3, 1, []int{0})
	r.elapse("it ends", 40, func(s *api.State) { unlease(s, 3, api.Pending) })
	r.refused("the lease that ended", finish(3, 1, 1, 0), api.ErrNone)
	r.grants("another one", 3, 1, []int{0})
	r.refused("the elder lease", finish(3, 1, 1, 0), api.ErrStale)
	r.do("the node starts again", join(again(node(1, 1, 8), 2)), api.Answer{Node: 1}, func(s *api.State) {
		s.Nodes[0].Inc = 2
		unlease(s, 3, api.Pending)
	})
	r.grants("a third one, at the same time", 3, 1, []int{0})
	r.refused("the elder Inc", finish(3, 1, 1, 40), api.ErrStale)
	r.finished("the right one", 3, 1, 2, 40)
	r.refused("killed when Done", kill(3), api.ErrState)
}

// A victim that is finished while its lease lasts is Done.
func TestFinishOfAVictim(t *testing.T) {
	r := begin(t, trio(v(1, 1)), 40, 0, node(1, 1, 8))
	r.submit(task(5, 2, 1, 1))
	r.grants("a lease", 5, 1, []int{0})
	r.submit(task(6, 1, 1, 1))
	r.stops("the queue 1 is hungry", 5, api.Hunger{Queue: 1, Since: 0})
	r.finished("the victim", 5, 1, 1, 0)
	r.grants("who was hungry", 6, 1, []int{0}, api.Hunger{Queue: 1, Since: 0})
}

func TestNoSuchKind(t *testing.T) {
	r := home(t)
	r.submit(task(3, 1, 1, 1))
	r.grants("a lease", 3, 1, []int{0})
	for _, kind := range []int{0, -1, api.Round + 1, api.Round + 2, 100, math.MinInt, math.MaxInt} {
		c := submit(task(4, 1, 1, 1))
		c.Kind = kind
		r.refused("a Kind that is none", c, api.ErrArg)
		r.refused("a Kind that is none, alone", api.Command{Kind: kind}, api.ErrArg)
	}
}

// Which fields count hangs on the Kind: the others may be anything.
func TestFieldsThatDontCount(t *testing.T) {
	r := home(t)
	c := submit(task(3, 1, 1, 1))
	c.Id, c.Inc, c.Beat, c.Since, c.Node, c.Queue = -5, -6, -7, -8, api.Node{Id: -9}, api.Queue{Id: -4}
	r.do("Submit", c, api.Answer{Task: 3}, func(s *api.State) {
		s.Tasks = append(s.Tasks, api.Task{Id: 3, Queue: 1, Need: v(1, 1), Tickets: []int{1}, State: api.Pending})
	})
	c = round()
	c.Id, c.Inc, c.Beat, c.Since, c.Node, c.Queue, c.Task = -5, -6, -7, -8, api.Node{Id: -9}, api.Queue{Id: -4}, api.Task{Id: -3}
	c.Kind = api.Kill
	r.refused("Kill of a task below 0", c, api.ErrNone)
	c.Id = 3
	r.do("Kill", c, api.Answer{Task: 3}, func(s *api.State) { s.Tasks[0].State = api.Killed })
	c.Kind = api.Round
	r.do("Round", c, api.Answer{Task: -1, Node: -1}, unchanged)
	c.Kind, c.Id, c.Inc, c.Beat = api.Renew, 2, 1, 5
	r.do("Renew", c, api.Answer{Node: 2}, func(s *api.State) { s.Nodes[1].Beat = 5 })
	c.Kind = api.Part
	r.do("Part", c, api.Answer{Node: 2}, func(s *api.State) { s.Nodes = s.Nodes[:1] })
	c.Kind = api.DropQueue
	r.do("DropQueue", c, api.Answer{}, func(s *api.State) { s.Queues = s.Queues[:2] })
	c.Kind, c.Node = api.Join, node(4, 3, 2)
	r.do("Join", c, api.Answer{Node: 4}, func(s *api.State) { s.Nodes = append(s.Nodes, node(4, 3, 2)) })
	c.Kind, c.Queue = api.AddQueue, q(5, 0, 1, v(1, 1), v(0, 0))
	r.do("AddQueue", c, api.Answer{}, func(s *api.State) { s.Queues = append(s.Queues, c.Queue) })
	c.Kind, c.Queue = api.SetQueue, q(5, 0, 7, v(2, 2), v(0, 0))
	r.do("SetQueue", c, api.Answer{}, func(s *api.State) { s.Queues[2] = c.Queue })
}
