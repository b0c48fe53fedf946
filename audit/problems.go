package audit

import (
	"cmp"
	"iter"
	"slices"

	"furlong/api"
	"furlong/queue"
)

// problems yields all, kind by kind. Where a number may stand twice nothing can be told by numbers, so Form stands alone.
func problems(s api.State) iter.Seq[Problem] {
	return func(yield func(Problem) bool) {
		if !ofTheForm(s) {
			yield(Problem{What: Form})
			return
		}
		for _, kind := range open(s).kinds() {
			for p := range kind {
				if !yield(p) {
					return
				}
			}
		}
	}
}

func (b books) kinds() []iter.Seq[Problem] {
	return []iter.Seq[Problem]{
		each(OverQuota, b.Queues, queueId, b.overQuota),
		each(OverNode, b.Nodes, nodeId, b.overNode),
		each(TwoTasks, b.Nodes, nodeId, b.twoTasks),
		each(NoTask, b.Leases, leaseTask, b.noTask),
		each(NoLease, b.Tasks, taskId, b.noLease),
		each(Timeless, b.Leases, leaseTask, b.timeless),
	}
}

// each yields a problem for whatever is wrong in a list, which rises, and so the problems do.
func each[T any](what int, l []T, id func(T) int, wrong func(T) bool) iter.Seq[Problem] {
	return func(yield func(Problem) bool) {
		for _, x := range l {
			if wrong(x) && !yield(Problem{What: what, Id: id(x)}) {
				return
			}
		}
	}
}

func ofTheForm(s api.State) bool {
	return queue.Check(s.Queues) == api.OK && rises(s.Nodes, nodeId) && rises(s.Tasks, taskId) && rises(s.Leases, leaseTask) && rises(s.Hungry, hungerQueue)
}

func rises[T any](l []T, id func(T) int) bool {
	for at := 1; at < len(l); at++ {
		if id(l[at]) <= id(l[at-1]) {
			return false
		}
	}
	return true
}

// find looks in a list that rises.
func find[T any](l []T, id func(T) int, wanted int) (T, bool) {
	at, there := slices.BinarySearchFunc(l, wanted, func(x T, wanted int) int { return cmp.Compare(id(x), wanted) })
	if !there {
		var none T
		return none, false
	}
	return l[at], true
}

func queueId(q api.Queue) int      { return q.Id }
func nodeId(n api.Node) int        { return n.Id }
func taskId(t api.Task) int        { return t.Id }
func leaseTask(l api.Lease) int    { return l.Task }
func hungerQueue(h api.Hunger) int { return h.Queue }
