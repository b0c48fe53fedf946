package table_test

import (
	"slices"
	"testing"

	"furlong/api"
)

// adds has a queue be there.
func (r *run) adds(what string, p api.Queue) {
	r.t.Helper()
	r.do(what, addQueue(p), api.Answer{}, func(s *api.State) { s.Queues = append(s.Queues, p) })
}

func (r *run) sets(what string, p api.Queue) {
	r.t.Helper()
	r.do(what, setQueue(p), api.Answer{}, func(s *api.State) { *queueOf(s, p.Id) = p })
}

func (r *run) drops(what string, id int) {
	r.t.Helper()
	r.do(what, dropQueue(id), api.Answer{}, func(s *api.State) {
		s.Queues = slices.DeleteFunc(s.Queues, func(p api.Queue) bool { return p.Id == id })
	})
}

func plain(id, parent int) api.Queue { return q(id, parent, 1, v(6, 16), v(0, 0)) }

// busy is the cluster of the examples, of which the queue 1 has a task that waits, 2 one that is leased.
func busy(t *testing.T) *run {
	t.Helper()
	r := home(t)
	r.submit(task(5, 2, 2, 3))
	r.grants("a lease", 5, 1, []int{0, 1})
	r.submit(task(6, 1, 1, 1))
	return r
}

func TestAddQueue(t *testing.T) {
	r := home(t)
	r.adds("at the end", plain(9, 0))
	r.adds("between", plain(3, 1))
	r.adds("below that one, with all fields", q(5, 3, api.MaxWeight, v(api.MaxRes, 3), v(0, 0)))
	r.submit(task(1, 5, 1, 1))
	r.refused("no leaf any more", submit(task(2, 1, 1, 1)), api.ErrLeaf)
	r.grants("of the new leaf", 1, 1, []int{0})
}

// wrongQueues is queues that queue.Add refuses of trio, with the Parent whom each one has: in use or not, its own error is told.
func wrongQueues() map[string]struct {
	p   api.Queue
	err api.Errno
} {
	type wrong = struct {
		p   api.Queue
		err api.Errno
	}
	weightless := plain(4, 1)
	weightless.Weight = 0
	heavy := plain(4, 2)
	heavy.Weight = api.MaxWeight + 1
	below, above := plain(4, 1), plain(4, 1)
	below.Quota, above.Quota = v(-1, 0), v(0, api.MaxRes+1)
	greedy, mean := plain(4, 1), plain(4, 1)
	greedy.Min = v(1, 0)
	mean.Quota, mean.Min = v(1, 1), v(2, 1)
	return map[string]wrong{
		"the Id is there":                 {plain(2, 1), api.ErrExists},
		"the root":                        {plain(0, -1), api.ErrExists},
		"the Id is there, below itself":   {plain(1, 1), api.ErrExists},
		"no such Parent":                  {plain(4, 9), api.ErrNone},
		"a second root":                   {plain(4, -1), api.ErrNone},
		"it stands ahead of its Parent":   {plain(-4, 1), api.ErrForm},
		"no weight":                       {weightless, api.ErrArg},
		"too great a weight":              {heavy, api.ErrArg},
		"a Quota below 0":                 {below, api.ErrArg},
		"a Quota above MaxRes":            {above, api.ErrArg},
		"a Min that isn't its Parent's":   {greedy, api.ErrQuota},
		"a Min that isn't in its Quota":   {mean, api.ErrQuota},
		"an Id that is there, and is bad": {q(2, 9, 0, v(-1, 0), v(1, 1)), api.ErrExists},
	}
}

func TestAddQueueRefused(t *testing.T) {
	for name, c := range wrongQueues() {
		home(t).refused(name, addQueue(c.p), c.err)
		busy(t).refused(name+", and the Parent is in use", addQueue(c.p), c.err)
	}
	r := busy(t)
	r.refused("a task of the Parent waits", addQueue(plain(4, 1)), api.ErrUse)
	r.refused("the Parent has a lease", addQueue(plain(4, 2)), api.ErrUse)
	r.adds("the root's own tasks are none", plain(4, 0))
}

func TestMaxQueues(t *testing.T) {
	queues := trio(v(0, 0))
	for id := 3; id < api.MaxQueues; id++ {
		queues = append(queues, plain(2*id, 0))
	}
	r := begin(t, queues, 40, 10)
	r.submit(task(1, 1, 1, 1))
	r.refused("one more", addQueue(plain(9, 0)), api.ErrFull)
	r.refused("one more, below no queue", addQueue(plain(9, 7)), api.ErrFull)
	r.refused("one more, below one in use", addQueue(plain(9, 1)), api.ErrFull)
	r.refused("one that is there", addQueue(plain(8, 0)), api.ErrExists)
	r.drops("one", 8)
	r.refused("below one in use", addQueue(plain(9, 1)), api.ErrUse)
	r.adds("in its place", plain(9, 0))
	r.refused("one more again", addQueue(plain(8, 0)), api.ErrFull)
}

// A task that is Done or Killed doesn't hold its queue; a lease does till it ends, though its task is killed.
func TestWhatHoldsAQueue(t *testing.T) {
	r := busy(t)
	r.killed("who waits", 6)
	r.adds("a queue below 1", plain(4, 1))
	r.drops("it", 4)
	r.drops("the queue itself", 1)
	r.killed("who is leased", 5)
	r.refused("below a queue with a lease", addQueue(plain(4, 2)), api.ErrUse)
	r.refused("a queue with a lease", dropQueue(2), api.ErrUse)
	r.elapse("the lease ends", 40, func(s *api.State) { unlease(s, 5, api.Killed) })
	r.adds("below it then", plain(4, 2))
	r.submit(task(7, 4, 1, 1))
	r.grants("of the new leaf", 7, 1, []int{0})
	r.refused("it has a child", dropQueue(2), api.ErrUse)
	r.finished("the new leaf's task", 7, 1, 1, 40)
	r.drops("the leaf", 4)
	r.drops("and its Parent", 2)
	r.submit(task(8, 0, 1, 1))
	r.grants("the root is a leaf", 8, 1, []int{0})
	r.refused("below the root with a lease", addQueue(plain(1, 0)), api.ErrUse)
}

// A lease that ended has its task wait: that holds the queue too.
func TestALeaseThatEndedHoldsItsQueue(t *testing.T) {
	r := home(t)
	r.submit(task(5, 2, 2, 3))
	r.grants("a lease", 5, 1, []int{0, 1})
	r.elapse("it ends", 40, func(s *api.State) { unlease(s, 5, api.Pending) })
	r.refused("below it", addQueue(plain(4, 2)), api.ErrUse)
	r.refused("it", dropQueue(2), api.ErrUse)
	r.drops("the other one", 1)
}

func TestSetQueue(t *testing.T) {
	r := busy(t)
	r.sets("weight, Quota and Min of the root", q(0, -1, 5, v(9, 20), v(3, 3)))
	r.sets("of a leaf in use", q(2, 0, 9, v(8, 8), v(1, 2)))
	r.sets("of the other one, just what is left of the Min", q(1, 0, api.MaxWeight, v(api.MaxRes, 8), v(2, 1)))
	r.sets("a Quota below what waits", q(1, 0, 1, v(0, 0), v(0, 0)))
	r.idle("what waits has no room")
}

func TestSetQueueRefused(t *testing.T) {
	r := busy(t)
	for _, c := range []struct {
		name string
		p    api.Queue
		err  api.Errno
	}{
		{"no such queue", plain(9, 0), api.ErrNone},
		{"no such queue, and no such Parent", plain(9, 8), api.ErrNone},
		{"another Parent", plain(2, 1), api.ErrForm},
		{"another Parent, and no weight", q(2, 1, 0, v(0, 0), v(0, 0)), api.ErrForm},
		{"the root below 1", plain(0, 1), api.ErrForm},
		{"no weight", q(2, 0, 0, v(6, 16), v(0, 0)), api.ErrArg},
		{"no weight, and no Quota", q(2, 0, 0, v(0, 0), v(0, 0)), api.ErrArg},
		{"no amount", q(2, 0, 1, v(6, -1), v(0, 0)), api.ErrArg},
		{"a Min above its Quota", q(2, 0, 1, v(6, 16), v(6, 17)), api.ErrQuota},
		{"a Min above the root's", q(2, 0, 1, v(6, 16), v(1, 0)), api.ErrQuota},
		{"one core less than what is leased", q(2, 0, 1, v(1, 16), v(0, 0)), api.ErrQuota},
		{"one of memory less", q(2, 0, 1, v(6, 2), v(0, 0)), api.ErrQuota},
		{"no Quota", q(2, 0, 1, v(0, 0), v(0, 0)), api.ErrQuota},
		{"of the root, one core less than what is leased below", q(0, -1, 1, v(1, 16), v(0, 0)), api.ErrQuota},
		{"of the root, one of memory less", q(0, -1, 1, v(6, 2), v(0, 0)), api.ErrQuota},
	} {
		r.refused(c.name, setQueue(c.p), c.err)
	}
	r.sets("just what is leased", q(2, 0, 1, v(2, 3), v(0, 0)))
	r.sets("of the root, just what is leased", q(0, -1, 1, v(2, 3), v(0, 0)))
}

// What is leased below a queue counts for all that are above it, of several leaves together.
func TestSetQueueAboveLeaves(t *testing.T) {
	most := v(9, 9)
	queues := []api.Queue{q(0, -1, 1, most, v(0, 0)), q(1, 0, 1, most, v(0, 0)), q(2, 1, 1, most, v(0, 0)), q(3, 1, 1, most, v(0, 0)), q(4, 0, 1, most, v(0, 0))}
	r := begin(t, queues, 40, 10, node(1, 8, 8))
	r.submit(task(1, 2, 1, 2), task(2, 3, 2, 1), task(3, 4, 3, 3))
	r.grants("a lease", 1, 1, []int{0})
	r.grants("a lease", 3, 1, []int{1, 2, 3})
	r.grants("a lease", 2, 1, []int{4, 5})
	r.refused("a core less", setQueue(q(1, 0, 1, v(2, 9), v(0, 0))), api.ErrQuota)
	r.refused("memory less", setQueue(q(1, 0, 1, v(9, 2), v(0, 0))), api.ErrQuota)
	r.refused("of the root", setQueue(q(0, -1, 1, v(5, 9), v(0, 0))), api.ErrQuota)
	r.sets("just what both have", q(1, 0, 1, v(3, 3), v(0, 0)))
	r.sets("just what all have", q(0, -1, 1, v(6, 6), v(0, 0)))
	r.killed("a leased task", 2)
	r.refused("what is Stop counts too", setQueue(q(1, 0, 1, v(1, 2), v(0, 0))), api.ErrQuota)
	r.elapse("all leases end", 40, func(s *api.State) {
		unlease(s, 1, api.Pending)
		unlease(s, 2, api.Killed)
		unlease(s, 3, api.Pending)
	})
	r.sets("nothing is leased", q(1, 0, 1, v(0, 0), v(0, 0)))
}

func TestDropQueue(t *testing.T) {
	r := busy(t)
	r.refused("no such queue", dropQueue(9), api.ErrNone)
	r.refused("no such queue below 0", dropQueue(-1), api.ErrNone)
	r.refused("the root", dropQueue(0), api.ErrForm)
	r.refused("a task of it waits", dropQueue(1), api.ErrUse)
	r.refused("it has a lease", dropQueue(2), api.ErrUse)
	r.adds("another one", plain(7, 0))
	r.adds("one below it", plain(8, 7))
	r.refused("it has a child", dropQueue(7), api.ErrUse)
	r.drops("the child", 8)
	r.drops("it", 7)
	r.refused("again", dropQueue(7), api.ErrNone)
}

// The tasks of a queue that is gone stay, and Hungry is told anew by a Round alone.
func TestDropOfAHungryQueue(t *testing.T) {
	r := begin(t, trio(v(2, 2)), 40, 10, node(1, 1, 8))
	r.submit(task(5, 2, 1, 1))
	r.grants("a lease", 5, 1, []int{0})
	r.submit(task(6, 1, 1, 1))
	r.idle("the queue 1 is hungry", api.Hunger{Queue: 1, Since: 0})
	r.killed("its task", 6)
	r.drops("it", 1)
	r.elapse("time", 5, unchanged)
	r.idle("nobody is hungry")
}
