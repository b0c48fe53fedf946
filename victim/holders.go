package victim

import (
	"furlong/api"
	"furlong/queue"
	"furlong/vec"
)

// holders is the queues by their Ids, and what they use by leases.
type holders struct {
	queues map[int]api.Queue
	used   sums
}

// read asks about the queues ahead of the leases, and only then whether the leases are those of leaves.
func read(l []api.Queue, leases []api.Lease) (holders, api.Errno) {
	if err := queue.Check(l); err != api.OK {
		return holders{}, err
	}
	used, err := add(leases)
	if err != api.OK {
		return holders{}, err
	}
	if _, err := queue.Sums(l, used.list()); err != api.OK {
		return holders{}, err
	}
	h := holders{queues: map[int]api.Queue{}, used: used}
	for _, q := range l {
		h.queues[q.Id] = q
	}
	return h, api.OK
}

// starves: is what a leaf wants guaranteed to it beside what it uses?
func (h holders) starves(need api.Use) bool {
	sum, err := vec.Add(h.used[need.Queue], need.Vec)
	return err == api.OK && vec.Fits(sum, h.queues[need.Queue].Min) // a sum above MaxRes is above every Min
}

// greatest tells the lease of which the end is felt least, if one may yield.
func (h holders) greatest(leases []api.Lease, total api.Vec) (api.Lease, bool) {
	var best api.Lease
	found := false
each:
	for _, x := range leases {
		switch {
		case !h.mayYield(x):
			continue each
		case !found || h.before(x, best, total):
			best, found = x, true
		}
	}
	return best, found
}

func (h holders) mayYield(x api.Lease) bool {
	left, _ := vec.Sub(h.used[x.Queue], amount(x)) // the lease is a part of that sum, so there is no error
	return vec.Fits(h.queues[x.Queue].Min, left)
}

// before: is a to end rather than b?
func (h holders) before(a, b api.Lease, total api.Vec) bool {
	if a.Queue == b.Queue {
		return a.Task > b.Task
	}
	weightA, weightB := h.queues[a.Queue].Weight, h.queues[b.Queue].Weight
	order, _ := vec.Less(h.used[a.Queue], weightA, h.used[b.Queue], weightB, total) // all were asked about already, so there is no error
	return order > 0 || order == 0 && a.Queue < b.Queue
}
