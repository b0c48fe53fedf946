package victim_test

import (
	"math"
	"testing"

	"furlong/api"
)

func chain(n int) []api.Queue {
	var l []api.Queue
	for i := range n {
		l = append(l, q(i, i-1, v(0, 0)))
	}
	return l
}

// wrongLists is lists of queues that queue.Check refuses.
func wrongLists() map[api.Errno][]api.Queue {
	mean := tree()
	mean[3].Min = v(5, 0)
	return map[api.Errno][]api.Queue{
		api.ErrLong:  chain(65),
		api.ErrForm:  {q(1, -1, v(0, 0))},
		api.ErrArg:   weigh(tree(), 1, 0),
		api.ErrQuota: mean,
	}
}

// wrongLeases is leases that Uses refuses, then those that queue.Sums refuses, of tree; an error's lists stand ahead of those of the errors that come behind it.
func wrongLeases() []struct {
	name   string
	leases []api.Lease
	err    api.Errno
} {
	over := []api.Lease{lease(1, 1, 0, api.MaxRes), lease(2, 1, 0, 1)}
	return []struct {
		name   string
		leases []api.Lease
		err    api.Errno
	}{
		{"Mem outside", []api.Lease{lease(1, 1, 1, -1)}, api.ErrArg},
		{"65 cores", []api.Lease{lease(1, 1, 65, 1)}, api.ErrArg},
		{"Mem outside, of one that is Stop", []api.Lease{stop(lease(1, 1, 1, api.MaxRes+1))}, api.ErrArg},
		{"Mem outside, and of no queue", []api.Lease{lease(1, 77, 1, -1)}, api.ErrArg},
		{"of no queue, then Mem outside", []api.Lease{lease(2, 77, 1, 1), lease(1, 1, 1, -1)}, api.ErrArg},
		{"a sum above MaxRes, then Mem outside", append(over[:2:2], lease(3, 2, 1, -1)), api.ErrArg},
		{"a sum above MaxRes", over, api.ErrOver},
		{"a sum above MaxRes, of one that is Stop", []api.Lease{over[0], stop(over[1])}, api.ErrOver},
		{"a sum above MaxRes, of no queue", []api.Lease{lease(1, 77, 0, api.MaxRes), lease(2, 77, 0, 1)}, api.ErrOver},
		{"a lease of no leaf, then a sum above MaxRes", append([]api.Lease{lease(3, 2, 1, 1)}, over...), api.ErrOver},
		{"of no queue", []api.Lease{lease(1, 77, 1, 1)}, api.ErrNone},
		{"of no queue, and Stop", []api.Lease{stop(lease(1, 77, 1, 1))}, api.ErrNone},
		{"of no queue below 0, and of nothing", []api.Lease{lease(1, -1, 0, 0)}, api.ErrNone},
		{"of no leaf", []api.Lease{lease(1, 2, 1, 1)}, api.ErrLeaf},
		{"of no leaf, and Stop", []api.Lease{lease(5, 1, 9, 9), stop(lease(1, 2, 1, 1))}, api.ErrLeaf},
		{"of the root", []api.Lease{lease(1, 0, 1, 1)}, api.ErrLeaf},
		{"of no queue, then of no leaf, but the uses rise", []api.Lease{lease(1, 77, 1, 1), lease(2, 2, 1, 1)}, api.ErrLeaf},
		{"of no leaf, then of no queue, but the uses rise", []api.Lease{lease(2, 2, 1, 1), lease(1, -7, 1, 1)}, api.ErrNone},
		{"sums above MaxRes in a queue above", []api.Lease{lease(1, 5, 0, api.MaxRes), lease(2, 9, 0, 1)}, api.ErrOver},
		{"sums above MaxRes in the root, one of them Stop", []api.Lease{stop(lease(1, 5, 0, api.MaxRes)), lease(2, 7, 0, 1)}, api.ErrOver},
		{"sums above MaxRes in the root, and of no leaf", []api.Lease{lease(1, 1, 0, api.MaxRes), lease(2, 5, 0, 1), lease(3, 2, 1, 1)}, api.ErrLeaf},
	}
}

var wrongNeeds = [][]api.Use{nil, {use(1, 1, 1)}, {use(5, 1, 1), use(1, 1, 1)}, {use(77, 1, 1)}, {use(2, 1, 1)}, {use(1, -1, 1)}}

var wrongTotals = []api.Vec{v(-1, 0), v(0, -1), v(api.MaxRes+1, 0), v(0, api.MaxRes+1), v(math.MinInt64, math.MaxInt64)}

func TestWrongListsComeFirst(t *testing.T) {
	all := wrongLeases()
	for err, l := range wrongLists() {
		for _, c := range append(all, all[0]) {
			for _, need := range wrongNeeds {
				checkStarved(t, "a wrong list, and leases: "+c.name, l, c.leases, need, nil, err)
			}
			for _, total := range append(wrongTotals, v(1, 1)) {
				checkChoose(t, "a wrong list, and leases: "+c.name, l, c.leases, total, 0, err)
			}
		}
		checkStarved(t, "a wrong list alone", l, nil, nil, nil, err)
		checkChoose(t, "a wrong list alone", l, nil, v(1, 1), 0, err)
	}
	checkStarved(t, "no list", nil, nil, nil, nil, api.ErrForm)
	checkChoose(t, "no list", nil, nil, v(1, 1), 0, api.ErrForm)
}

func TestWrongLeasesComeNext(t *testing.T) {
	for _, c := range wrongLeases() {
		for _, need := range wrongNeeds {
			checkStarved(t, "leases: "+c.name, tree(), c.leases, need, nil, c.err)
		}
		for _, total := range append(wrongTotals, v(1, 1)) {
			checkChoose(t, "leases: "+c.name, tree(), c.leases, total, 0, c.err)
		}
	}
}

func TestWrongTotals(t *testing.T) {
	for _, total := range wrongTotals {
		checkChoose(t, "a wrong total", tree(), []api.Lease{lease(1, 7, 1, 1)}, total, 0, api.ErrArg)
		checkChoose(t, "a wrong total, and no lease that may go", tree(), []api.Lease{stop(lease(1, 7, 1, 1))}, total, 0, api.ErrArg)
		checkChoose(t, "a wrong total, and no leases", tree(), nil, total, 0, api.ErrArg)
	}
	checkChoose(t, "sums of MaxRes", tree(), []api.Lease{lease(1, 7, 1, api.MaxRes-1), lease(2, 9, 1, 1)}, v(1, 1), 1, api.OK)
}
