package table_test

import (
	"slices"
	"testing"

	"furlong/api"
	"furlong/queue"
)

func plus(a, b api.Vec) api.Vec { return v(a.CPU+b.CPU, a.Mem+b.Mem) }
func fits(a, b api.Vec) bool    { return a.CPU <= b.CPU && a.Mem <= b.Mem }

func need(l api.Lease) api.Vec { return v(int64(len(l.Cores)), l.Mem) }

// path is a queue and all above it.
func path(queues []api.Queue, id int) []int {
	var ids []int
	for id != -1 {
		ids = append(ids, id)
		id = queues[slices.IndexFunc(queues, func(p api.Queue) bool { return p.Id == id })].Parent
	}
	return ids
}

// leased is what the leases below a queue have together.
func leased(s api.State, id int, counts func(api.Lease) bool) api.Vec {
	var sum api.Vec
	for _, l := range s.Leases {
		if counts(l) && slices.Contains(path(s.Queues, l.Queue), id) {
			sum = plus(sum, need(l))
		}
	}
	return sum
}

func anyLease(api.Lease) bool { return true }
func lasts(l api.Lease) bool  { return !l.Stop }

// rising tells whether the numbers rise strictly.
func rising[T any](l []T, of func(T) int) bool {
	for i := 1; i < len(l); i++ {
		if of(l[i]) <= of(l[i-1]) {
			return false
		}
	}
	return true
}

// sound asks for all that P11.4 says of a state, and for the order of its lists.
func sound(t *testing.T, what string, s api.State) {
	t.Helper()
	wrong := func(why string) { t.Fatalf("P11.4: %s: %s: %v", what, why, s) }
	if queue.Check(s.Queues) != api.OK || !rising(s.Nodes, func(n api.Node) int { return n.Id }) ||
		!rising(s.Tasks, func(t api.Task) int { return t.Id }) || !rising(s.Leases, func(l api.Lease) int { return l.Task }) ||
		!rising(s.Hungry, func(h api.Hunger) int { return h.Queue }) {
		wrong("a list isn't in its order")
	}
	for _, p := range s.Queues {
		if !fits(leased(s, p.Id, anyLease), p.Quota) {
			wrong("a Quota is broken")
		}
	}
	for _, n := range s.Nodes {
		soundNode(s, n, wrong)
	}
	for _, x := range s.Tasks {
		has := slices.ContainsFunc(s.Leases, func(l api.Lease) bool { return l.Task == x.Id })
		if x.State < api.Pending || x.State > api.Killed || x.State != api.Killed && has != (x.State == api.Leased) {
			wrong("a task's state and its lease")
		}
	}
	for _, l := range s.Leases {
		soundLease(s, l, wrong)
	}
}

func soundNode(s api.State, n api.Node, wrong func(string)) {
	var mem int64
	var taken []int
	for _, l := range s.Leases {
		if l.Node == n.Id {
			mem += l.Mem
			taken = append(taken, l.Cores...)
		}
	}
	slices.Sort(taken)
	itself := func(c int) int { return c }
	if mem > n.Mem || !rising(taken, itself) || len(taken) > 0 && (taken[0] < 0 || taken[len(taken)-1] >= n.Cores) {
		wrong("a node gives more than it has")
	}
}

func soundLease(s api.State, l api.Lease, wrong func(string)) {
	if !slices.ContainsFunc(s.Nodes, func(n api.Node) bool { return n.Id == l.Node }) {
		wrong("a lease on no node")
	}
	if !slices.ContainsFunc(s.Tasks, func(t api.Task) bool { return t.Id == l.Task && t.Queue == l.Queue && t.Need == need(l) }) {
		wrong("a lease of no such task")
	}
	if l.Until <= s.Now || l.Until-s.Now > s.Long || l.Since > s.Now || l.Since < 0 || !rising(l.Cores, func(c int) int { return c }) {
		wrong("a lease's times or cores")
	}
	if taskOf(&s, l.Task).State == api.Killed && !l.Stop {
		wrong("a killed task's lease isn't Stop")
	}
}
