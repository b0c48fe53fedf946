package table_test

import (
	"math"
	"slices"
	"testing"

	"furlong/api"
	"furlong/table"
)

// joins has a node be there, as it is told; the tasks of its leases are pending.
func (r *run) joins(what string, n api.Node, pending ...int) {
	r.t.Helper()
	r.do(what, join(n), api.Answer{Node: n.Id}, func(s *api.State) {
		s.Nodes = slices.DeleteFunc(s.Nodes, func(x api.Node) bool { return x.Id == n.Id })
		s.Nodes = append(s.Nodes, n)
		for _, id := range pending {
			unlease(s, id, api.Pending)
		}
	})
}

func (r *run) parts(what string, id int) {
	r.t.Helper()
	r.do(what, part(id), api.Answer{Node: id}, func(s *api.State) {
		s.Nodes = slices.DeleteFunc(s.Nodes, func(n api.Node) bool { return n.Id == id })
	})
}

// renews has the leases of these tasks last till Now + Long.
func (r *run) renews(what string, id, inc, beat int, tasks ...int) {
	r.t.Helper()
	after := tidied(r.s)
	nodeOf(&after, id).Beat = beat
	var renewed []api.Lease
	for _, x := range tasks {
		leaseOf(&after, x).Until = after.Now + after.Long
		renewed = append(renewed, *leaseOf(&after, x))
	}
	r.do(what, renew(id, inc, beat), api.Answer{Node: id, Leases: renewed}, func(s *api.State) { *s = after })
}

func TestJoin(t *testing.T) {
	r := begin(t, wide(), 40, 10)
	r.joins("the first one", node(5, 2, 8))
	r.joins("ahead of it, with a core and nothing else", node(0, 1, 0))
	r.joins("between, with MaxCores", node(3, api.MaxCores, 100))
	r.joins("with a greater Inc at once", again(node(4, 1, 1), 9))
	r.joins("the greatest Id and Inc", again(node(math.MaxInt, 1, 1), math.MaxInt))
	r.joins("again with the next Inc", again(node(5, 2, 8), 2))
	r.joins("again with a much greater one, and it is another machine", again(node(5, 7, 1), 77))
	r.submit(task(1, 1, 64, 100))
	r.grants("all of it", 1, 3, upTo(64))
}

func upTo(n int) []int {
	var l []int
	for i := range n {
		l = append(l, i)
	}
	return l
}

func TestJoinWithMaxRes(t *testing.T) {
	r := begin(t, wide(), 40, 10)
	r.joins("with MaxRes", node(1, 1, api.MaxRes))
	r.refused("one more", join(node(2, 1, 1)), api.ErrOver)
	r.refused("MaxRes more", join(node(0, 1, api.MaxRes)), api.ErrOver)
	r.joins("one without memory", node(2, 1, 0))
	r.refused("that one again, with some", join(again(node(2, 1, 1), 2)), api.ErrOver)
	r.joins("the great one again: its elder Mem doesn't count", again(node(1, 1, api.MaxRes-5), 2))
	r.joins("then the other one again, with just what is left", again(node(2, 1, 5), 2))
	r.refused("and again, with one more", join(again(node(2, 1, 6), 3)), api.ErrOver)
	r.parts("the great one", 1)
	r.joins("there is room", node(3, 1, api.MaxRes-5))
	r.refused("and none again", join(node(1, 1, 1)), api.ErrOver)
}

func badNodes() map[string]api.Node {
	return map[string]api.Node{
		"an Id below 0":           node(-1, 1, 1),
		"the least Id":            node(math.MinInt, 1, 1),
		"no cores":                node(1, 0, 1),
		"cores below 0":           node(1, -1, 1),
		"more than MaxCores":      node(1, api.MaxCores+1, 1),
		"many more":               node(1, math.MaxInt, 1),
		"memory below 0":          node(1, 1, -1),
		"more memory than MaxRes": node(1, 1, api.MaxRes+1),
		"the most memory":         node(1, 1, math.MaxInt64),
		"no Inc":                  again(node(1, 1, 1), 0),
		"an Inc below 0":          again(node(1, 1, 1), -1),
		"a Beat":                  {Id: 1, Cores: 1, Mem: 1, Inc: 1, Beat: 1},
		"a Beat below 0":          {Id: 1, Cores: 1, Mem: 1, Inc: 1, Beat: -1},
		"nothing":                 {},
	}
}

func TestJoinErrArg(t *testing.T) {
	for _, r := range []*run{begin(t, wide(), 40, 10), begin(t, wide(), 40, 10, node(1, 1, api.MaxRes)), crowd(t)} {
		for name, n := range badNodes() {
			r.refused(name, join(n), api.ErrArg)
		}
	}
}

// crowd is MaxNodes nodes of one core, of the Ids 2, 4 and on, with MaxRes of memory together.
func crowd(t *testing.T) *run {
	t.Helper()
	r := begin(t, wide(), 40, 10)
	for i := range api.MaxNodes {
		s, a := table.Apply(r.s, join(again(node(2*i+2, 1, api.MaxRes/api.MaxNodes), 3)))
		if a.Err != api.OK {
			t.Fatalf("P11.2: node %d: %v", i, a)
		}
		r.s = s
	}
	return r
}

func TestMaxNodes(t *testing.T) {
	r := crowd(t)
	r.refused("one more", join(node(1, 1, 0)), api.ErrFull)
	r.refused("one more, and there is too much memory", join(node(500, 1, 1)), api.ErrFull)
	r.refused("one that is there, with too much memory, and an elder Inc", join(again(node(2, 1, api.MaxRes), 2)), api.ErrStale)
	r.refused("one that is there, with this Inc", join(again(node(2, 1, 1), 3)), api.ErrStale)
	r.refused("one that is there, with too much memory", join(again(node(2, 1, api.MaxRes), 4)), api.ErrOver)
	r.joins("one that is there", again(node(2, 64, 1), 4))
	r.refused("one more again", join(node(1, 1, 0)), api.ErrFull)
	r.parts("one", 10)
	r.refused("one more with too much memory", join(node(1, 1, api.MaxRes/api.MaxNodes*2)), api.ErrOver)
	r.joins("one more", node(1, 1, api.MaxRes/api.MaxNodes*2-1))
	r.refused("one more again", join(node(10, 1, 0)), api.ErrFull)
}

func TestJoinStale(t *testing.T) {
	r := begin(t, wide(), 40, 10, again(node(1, 2, 8), 5))
	for _, inc := range []int{1, 4, 5} {
		r.refused("an elder Inc, or the same", join(again(node(1, 2, 8), inc)), api.ErrStale)
		r.refused("it, with too much memory", join(again(node(1, 2, api.MaxRes), inc)), api.ErrStale)
	}
	r.parts("it", 1)
	r.joins("a node that parted may have any Inc", node(1, 2, 8))
}

// A node that starts again has lost what it ran: its leases end, those of other nodes last.
func TestJoinAgainWithLeases(t *testing.T) {
	r := home(t)
	r.submit(task(1, 1, 1, 1), task(2, 1, 1, 1), task(3, 2, 2, 2), task(4, 2, 1, 1))
	r.grants("a lease", 1, 1, []int{0})
	r.grants("a lease", 3, 2, []int{0, 1})
	r.grants("a lease", 2, 1, []int{1})
	r.grants("a lease", 4, 2, []int{2})
	r.killed("one of them", 2)
	r.renews("its Beat", 1, 1, 6, 1)
	r.refused("too much memory", join(again(node(1, 2, api.MaxRes), 2)), api.ErrOver)
	r.refused("an elder Inc", join(node(1, 2, 8)), api.ErrStale)
	r.do("the node, with one core", join(again(node(1, 1, 3), 2)), api.Answer{Node: 1}, func(s *api.State) {
		s.Nodes[0] = api.Node{Id: 1, Cores: 1, Mem: 3, Inc: 2}
		unlease(s, 1, api.Pending)
		unlease(s, 2, api.Killed)
	})
	r.refused("the elder Inc is renewed", renew(1, 1, 7), api.ErrStale)
	r.refused("the elder lease is finished", finish(1, 1, 1, 0), api.ErrNone)
	r.grants("the task that waits again", 1, 1, []int{0})
	r.joins("the other node", again(node(2, 4, 8), 2), 3, 4)
	r.joins("the first one", again(node(1, 2, 8), 3), 1)
}

func TestPart(t *testing.T) {
	r := home(t)
	r.submit(task(1, 1, 1, 1))
	r.grants("a lease", 1, 1, []int{0})
	r.refused("no such node", part(3), api.ErrNone)
	r.refused("no such node below 0", part(-1), api.ErrNone)
	r.refused("it has a lease", part(1), api.ErrUse)
	r.parts("the other one", 2)
	r.refused("again", part(2), api.ErrNone)
	r.elapse("one less than the lease lasts", 39, unchanged)
	r.refused("it has a lease still", part(1), api.ErrUse)
	r.elapse("the lease ends", 1, func(s *api.State) { unlease(s, 1, api.Pending) })
	r.parts("it", 1)
	r.refused("a Round without nodes", round(), api.ErrNone)
}

func TestRenew(t *testing.T) {
	r := home(t)
	r.submit(task(1, 1, 1, 1), task(2, 1, 1, 2), task(3, 2, 2, 2), task(4, 2, 1, 1))
	r.grants("a lease", 1, 1, []int{0})
	r.grants("a lease", 3, 2, []int{0, 1})
	r.elapse("time", 5, unchanged)
	r.grants("a lease", 2, 1, []int{1})
	r.grants("a lease", 4, 2, []int{2})
	r.renews("at once", 1, 1, 1, 1, 2)
	r.elapse("time", 5, unchanged)
	r.renews("a node's leases, by task", 1, 1, 2, 1, 2)
	r.renews("of the other node", 2, 1, 1, 3, 4)
	r.killed("one", 2)
	r.elapse("time", 5, unchanged)
	r.renews("with a Beat that is much greater", 1, 1, 1000, 1)
	r.renews("the greatest Beat", 2, 1, math.MaxInt, 3, 4)
	r.refused("no greater one is left", renew(2, 1, math.MaxInt), api.ErrStale)
}

func TestRenewWithoutLeases(t *testing.T) {
	r := home(t)
	r.renews("no leases at all", 1, 1, 1)
	r.submit(task(1, 1, 4, 1))
	r.grants("a lease", 1, 2, []int{0, 1, 2, 3})
	r.renews("none of this node", 1, 1, 2)
	r.killed("it", 1)
	r.renews("all are Stop", 2, 1, 1)
}

func TestRenewRefused(t *testing.T) {
	r := begin(t, wide(), 40, 10, again(node(1, 2, 8), 3), node(2, 1, 1))
	r.submit(task(1, 1, 2, 1))
	r.grants("a lease", 1, 1, []int{0, 1})
	r.renews("a Beat of 5", 1, 3, 5, 1)
	r.elapse("time", 5, unchanged)
	for _, c := range []struct {
		name    string
		renewal api.Command
		err     api.Errno
	}{
		{"no such node", renew(3, 3, 6), api.ErrNone},
		{"no such node below 0", renew(-1, 3, 6), api.ErrNone},
		{"no such node, and nothing else is right", renew(0, 0, 0), api.ErrNone},
		{"an elder Inc", renew(1, 2, 6), api.ErrStale},
		{"a newer Inc", renew(1, 4, 6), api.ErrStale},
		{"no Inc", renew(1, 0, 6), api.ErrStale},
		{"the same Beat", renew(1, 3, 5), api.ErrStale},
		{"an elder Beat", renew(1, 3, 4), api.ErrStale},
		{"the Beat 0", renew(2, 1, 0), api.ErrStale},
		{"a Beat below 0", renew(2, 1, -1), api.ErrStale},
		{"the least Beat", renew(2, 1, math.MinInt), api.ErrStale},
	} {
		r.refused(c.name, c.renewal, c.err)
	}
	r.renews("the next one", 1, 3, 6, 1)
	r.joins("the node starts again, and its Beats too", again(node(1, 2, 8), 4), 1)
	r.renews("its first one", 1, 4, 1)
}

// A victim's lease isn't renewed either.
func TestRenewOfAVictim(t *testing.T) {
	r := begin(t, trio(v(1, 1)), 40, 0, node(1, 2, 8))
	r.submit(task(4, 2, 1, 1), task(5, 2, 1, 1))
	r.grants("a lease", 4, 1, []int{0})
	r.grants("a lease", 5, 1, []int{1})
	r.submit(task(6, 1, 1, 1))
	r.stops("the queue 1 is hungry", 5, api.Hunger{Queue: 1, Since: 0})
	r.elapse("time", 20, unchanged)
	r.renews("the other one", 1, 1, 1, 4)
	r.elapse("the victim's ends", 20, func(s *api.State) { unlease(s, 5, api.Pending) })
	r.grants("who was hungry", 6, 1, []int{1}, api.Hunger{Queue: 1, Since: 0})
}
