package audit

import (
	"slices"

	"furlong/api"
	"furlong/num"
	"furlong/queue"
	"furlong/vec"
)

// books is a state of the form, with the leases of each node.
type books struct {
	api.State
	onNode map[int][]api.Lease
}

func open(s api.State) books {
	b := books{s, map[int][]api.Lease{}}
	for _, l := range s.Leases {
		b.onNode[l.Node] = append(b.onNode[l.Node], l)
	}
	return b
}

func (b books) overQuota(q api.Queue) bool {
	below, _ := queue.Below(b.Queues, q.Id) // the queues were checked
	var leases []api.Lease
	for _, l := range b.Leases {
		if slices.Contains(below, l.Queue) {
			leases = append(leases, l)
		}
	}
	sum, err := together(leases)
	return err != api.OK || !vec.Fits(sum, q.Quota)
}

func (b books) overNode(n api.Node) bool {
	leases := b.onNode[n.Id]
	for _, l := range leases {
		if l.Mem < 0 || !ofNode(l.Cores, n.Cores) {
			return true
		}
	}
	sum, err := together(leases)
	return err != api.OK || sum.Mem > n.Mem
}

// ofNode: is there a core, and is each one from 0 to below count, and there once?
func ofNode(cores []int, count int) bool {
	met := map[int]struct{}{}
	for _, core := range cores {
		if core < 0 || core >= count {
			return false
		}
		met[core] = struct{}{}
	}
	return len(cores) > 0 && len(met) == len(cores)
}

// twoTasks tells owners by their tasks: a core that stands in one lease twice has one owner all the same.
func (b books) twoTasks(n api.Node) bool {
	owners := map[int]int{}
	for _, l := range b.onNode[n.Id] {
		for _, core := range l.Cores {
			if owner, owned := owners[core]; owned && owner != l.Task {
				return true
			}
			owners[core] = l.Task
		}
	}
	return false
}

func (b books) noTask(l api.Lease) bool {
	_, hasNode := find(b.Nodes, nodeId, l.Node)
	t, hasTask := find(b.Tasks, taskId, l.Task)
	if !hasNode || !hasTask {
		return true
	}
	return t.State != api.Leased && t.State != api.Killed || t.Queue != l.Queue || t.Need != amount(l)
}

func (b books) noLease(t api.Task) bool {
	_, hasLease := find(b.Leases, leaseTask, t.Id)
	return t.State == api.Leased && !hasLease
}

func (b books) timeless(l api.Lease) bool {
	left, err := num.Sub(l.Until, b.Now)
	return err != api.OK || left <= 0 || left > b.Long || l.Since > b.Now
}

func amount(l api.Lease) api.Vec {
	return api.Vec{CPU: int64(len(l.Cores)), Mem: l.Mem}
}

// together is exact: vec's sums end at amounts, while leases that are wrong may hold any numbers.
func together(leases []api.Lease) (api.Vec, api.Errno) {
	var cores int64
	var mems []int64
	for _, l := range leases {
		cores += int64(len(l.Cores))
		mems = append(mems, l.Mem)
	}
	mem, err := num.Sum(mems)
	return api.Vec{CPU: cores, Mem: mem}, err
}
