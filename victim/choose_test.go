package victim_test

import (
	"math"
	"slices"
	"testing"

	"furlong/api"
)

func TestChooseExample(t *testing.T) {
	leases := []api.Lease{lease(3, 1, 1, 0), lease(8, 1, 1, 0), lease(5, 2, 1, 0)}
	checkChoose(t, "example 1", flat(v(1, 0), v(0, 0)), leases, v(4, 8), 8, api.OK)
}

func TestChooseNobody(t *testing.T) {
	total := v(9, 9)
	for name, leases := range map[string][]api.Lease{
		"no leases":                             nil,
		"one that its Min needs":                {lease(1, 1, 1, 0)},
		"two that their Min needs":              {lease(1, 3, 1, 4), lease(2, 3, 1, 4)},
		"one that is Stop":                      {stop(lease(1, 2, 1, 1))},
		"all are Stop":                          {stop(lease(1, 2, 1, 1)), stop(lease(2, 2, 1, 1)), stop(lease(3, 1, 9, 9))},
		"one that is Stop is no cover":          {stop(lease(1, 1, 1, 0)), lease(2, 1, 1, 0)},
		"the other one may go, but it is Stop":  {lease(1, 1, 1, 0), stop(lease(2, 1, 1, 0)), stop(lease(3, 2, 1, 1))},
		"cores would be missing, not memory":    {lease(1, 3, 1, 9), lease(2, 3, 1, 9)},
		"memory would be missing, not cores":    {lease(1, 3, 9, 7), lease(2, 3, 9, 1)},
		"below the Min, a lease of nothing":     {lease(1, 3, 1, 0), lease(2, 3, 0, 0)},
		"each queue needs what it has, by half": {lease(1, 1, 1, 5), lease(2, 3, 2, 8)},
	} {
		checkChoose(t, name, flat(v(1, 0), v(0, 0), v(2, 8)), leases, total, 0, api.ErrNone)
	}
}

// A queue of the Min (2, 3) covers it without a lease, or just not.
func TestChooseJustCovers(t *testing.T) {
	l := flat(v(2, 3))
	total := v(9, 9)
	for _, c := range []struct {
		name   string
		leases []api.Lease
		want   int
		err    api.Errno
	}{
		{"it just covers its Min without it", []api.Lease{lease(1, 1, 2, 3), lease(2, 1, 9, 9)}, 2, api.OK},
		{"the great one must stay, the small one may go", []api.Lease{lease(1, 1, 1, 2), lease(2, 1, 2, 3)}, 1, api.OK},
		{"a core is missing without either", []api.Lease{lease(1, 1, 1, 3), lease(2, 1, 1, 3)}, 0, api.ErrNone},
		{"memory is missing without either", []api.Lease{lease(1, 1, 2, 2), lease(2, 1, 2, 2)}, 0, api.ErrNone},
		{"three, of which any one may go", []api.Lease{lease(4, 1, 1, 2), lease(6, 1, 1, 2), lease(5, 1, 1, 2)}, 6, api.OK},
		{"what covers it is Stop", []api.Lease{stop(lease(1, 1, 2, 3)), lease(2, 1, 1, 1)}, 0, api.ErrNone},
		{"it covers its Min without the one and those that are Stop", []api.Lease{stop(lease(9, 1, 5, 5)), lease(1, 1, 2, 3), lease(2, 1, 1, 1)}, 2, api.OK},
		{"a lease of nothing may go where the Min is covered", []api.Lease{lease(2, 1, 2, 3), lease(5, 1, 0, 0)}, 5, api.OK},
		{"not the greatest Task, for that one must stay", []api.Lease{lease(1, 1, 1, 1), lease(3, 1, 0, 2), lease(8, 1, 2, 3)}, 3, api.OK},
	} {
		checkChoose(t, c.name, l, c.leases, total, c.want, c.err)
	}
}

func TestChooseTheGreatestShare(t *testing.T) {
	total := v(10, 100)
	none := flat(v(0, 0), v(0, 0), v(0, 0))
	for _, c := range []struct {
		name   string
		l      []api.Queue
		leases []api.Lease
		want   int
	}{
		{"one lease", none, []api.Lease{lease(6, 2, 1, 1)}, 6},
		{"cores", none, []api.Lease{lease(1, 1, 2, 0), lease(2, 2, 3, 0), lease(3, 3, 1, 0)}, 2},
		{"memory", none, []api.Lease{lease(1, 1, 0, 2), lease(2, 2, 0, 1), lease(3, 3, 0, 3)}, 3},
		{"memory against cores", none, []api.Lease{lease(1, 1, 3, 0), lease(2, 2, 0, 31)}, 2},
		{"cores against memory", none, []api.Lease{lease(1, 1, 3, 0), lease(2, 2, 0, 29)}, 1},
		{"the greater of both counts, not their sum", none, []api.Lease{lease(1, 1, 3, 30), lease(2, 2, 4, 0)}, 2},
		{"what all of a queue's leases use counts", none, []api.Lease{lease(1, 1, 1, 0), lease(2, 2, 2, 0), lease(3, 1, 1, 0), lease(4, 1, 1, 0)}, 4},
		{"the lease that goes counts too", flat(v(3, 0), v(0, 0)), []api.Lease{lease(1, 1, 3, 0), lease(2, 1, 2, 0), lease(3, 2, 4, 0)}, 2},
		{"what is Stop doesn't count for the share", none, []api.Lease{lease(1, 1, 1, 0), stop(lease(9, 1, 5, 0)), lease(2, 2, 2, 0)}, 2},
		{"a queue with a greater share, of which none may go", flat(v(5, 0), v(0, 0)), []api.Lease{lease(8, 1, 5, 0), lease(2, 2, 1, 0)}, 2},
		{"a queue with a greater share, of which all are Stop", none, []api.Lease{stop(lease(8, 1, 5, 0)), lease(2, 2, 1, 0)}, 2},
		{"weights", weigh(none, 1, 2, 3), []api.Lease{lease(1, 1, 2, 0), lease(2, 2, 3, 0), lease(3, 3, 5, 0)}, 1},
		{"a greater weight with a share that is greater still", weigh(none, 1, 2, 3), []api.Lease{lease(1, 1, 2, 0), lease(2, 2, 5, 0), lease(3, 3, 7, 0)}, 2},
		{"weights over memory and cores", weigh(none, 4, 1), []api.Lease{lease(1, 1, 4, 0), lease(2, 2, 0, 11)}, 2},
		{"more than all", none, []api.Lease{lease(1, 1, 20, 0), lease(2, 2, 30, 0)}, 2},
		{"who uses nothing is last", none, []api.Lease{lease(1, 1, 0, 0), lease(2, 2, 0, 1)}, 2},
		{"nobody uses anything", none, []api.Lease{lease(5, 3, 0, 0), lease(4, 2, 0, 0)}, 4},
	} {
		checkChoose(t, c.name, c.l, c.leases, total, c.want, api.OK)
		slices.Reverse(c.leases)
		checkChoose(t, c.name+", the other way round", c.l, c.leases, total, c.want, api.OK)
	}
}

func TestChooseQueuesAlike(t *testing.T) {
	total := v(12, 24)
	none := flat(v(0, 0), v(0, 0), v(0, 0))
	for _, c := range []struct {
		name   string
		l      []api.Queue
		leases []api.Lease
		want   int
	}{
		{"the same uses: the least Id, not the greatest Task", none, []api.Lease{lease(9, 3, 3, 1), lease(5, 2, 3, 1), lease(1, 1, 3, 1)}, 1},
		{"the same share of cores and of memory", none, []api.Lease{lease(1, 3, 3, 0), lease(2, 2, 0, 6), lease(3, 1, 3, 6)}, 3},
		{"the same share by weight", weigh(none, 3, 1, 2), []api.Lease{lease(3, 3, 0, 4), lease(2, 2, 1, 0), lease(1, 1, 3, 0)}, 1},
		{"two alike above one", none, []api.Lease{lease(9, 1, 1, 0), lease(8, 3, 2, 0), lease(2, 2, 2, 0)}, 2},
		{"two alike, of the first none may go", flat(v(2, 0), v(0, 0)), []api.Lease{lease(1, 1, 2, 0), lease(2, 2, 2, 0)}, 2},
		{"alike only with what is Stop", none, []api.Lease{lease(1, 1, 1, 0), stop(lease(2, 1, 1, 0)), lease(3, 2, 2, 0)}, 3},
	} {
		checkChoose(t, c.name, c.l, c.leases, total, c.want, api.OK)
		slices.Reverse(c.leases)
		checkChoose(t, c.name+", the other way round", c.l, c.leases, total, c.want, api.OK)
	}
}

func TestChooseTheGreatestTask(t *testing.T) {
	none := flat(v(0, 0), v(1, 0))
	total := v(9, 9)
	checkChoose(t, "of several", none, []api.Lease{lease(4, 1, 1, 0), lease(7, 1, 1, 0), lease(5, 1, 1, 0)}, total, 7, api.OK)
	checkChoose(t, "not of another queue", none, []api.Lease{lease(4, 1, 3, 0), lease(2, 1, 1, 0), lease(5, 2, 1, 0), lease(8, 2, 1, 0)}, total, 4, api.OK)
	checkChoose(t, "not one that is Stop", none, []api.Lease{lease(4, 1, 1, 0), stop(lease(7, 1, 1, 0)), lease(3, 1, 1, 0)}, total, 4, api.OK)
	checkChoose(t, "the size of a lease doesn't matter", none, []api.Lease{lease(4, 1, 8, 8), lease(7, 1, 0, 0)}, total, 7, api.OK)
	checkChoose(t, "a Task 0", none, []api.Lease{lease(0, 1, 1, 0)}, total, 0, api.OK)
	checkChoose(t, "Tasks below 0", none, []api.Lease{lease(-7, 1, 1, 0), lease(-3, 1, 1, 0), lease(-9, 1, 1, 0)}, total, -3, api.OK)
	checkChoose(t, "Tasks at the ends of numbers", none, []api.Lease{lease(math.MinInt, 1, 1, 0), lease(math.MaxInt, 1, 1, 0)}, total, math.MaxInt, api.OK)
	checkChoose(t, "the least number of all alone", none, []api.Lease{lease(math.MinInt, 1, 1, 0)}, total, math.MinInt, api.OK)
}

func TestChooseTotals(t *testing.T) {
	none := flat(v(0, 0), v(0, 0), v(0, 0))
	checkChoose(t, "no cores at all", none, []api.Lease{lease(1, 1, 0, 8), lease(2, 2, 1, 0), lease(3, 3, 0, 9)}, v(0, 8), 2, api.OK)
	checkChoose(t, "no memory at all", none, []api.Lease{lease(1, 1, 8, 0), lease(2, 2, 9, 0), lease(3, 3, 0, 1)}, v(8, 0), 3, api.OK)
	checkChoose(t, "no cores, each uses some: alike, whatever the weight", weigh(none, api.MaxWeight, 1, 2), []api.Lease{lease(3, 3, 5, 3), lease(2, 2, 9, 0), lease(1, 1, 1, 0)}, v(0, 8), 1, api.OK)
	checkChoose(t, "nothing at all", none, []api.Lease{lease(3, 3, 0, 0), lease(2, 2, 0, 1)}, v(0, 0), 2, api.OK)
	checkChoose(t, "MaxRes", none, []api.Lease{lease(3, 3, 1, 0), lease(2, 2, 0, 2)}, v(api.MaxRes, api.MaxRes), 2, api.OK)
	checkChoose(t, "1 and MaxWeight, just alike", weigh(none, api.MaxWeight, 1), []api.Lease{lease(1, 1, 0, api.MaxWeight), lease(2, 2, 0, 1)}, v(1, api.MaxRes), 1, api.OK)
	checkChoose(t, "1 and MaxWeight, one less", weigh(none, api.MaxWeight, 1), []api.Lease{lease(1, 1, 0, api.MaxWeight-1), lease(2, 2, 0, 1)}, v(1, api.MaxRes), 2, api.OK)
}

// Only the leaf's own Min and Weight count, not those of the queues above it.
func TestChooseInATree(t *testing.T) {
	total := v(20, 20)
	checkChoose(t, "a leaf with no Min below a parent with one", []api.Queue{q(0, -1, v(9, 9)), q(1, 0, v(5, 5)), q(2, 1, v(0, 0))}, []api.Lease{lease(3, 2, 1, 1)}, total, 3, api.OK)
	checkChoose(t, "leaves of one parent don't cover each other", tree(), []api.Lease{lease(3, 5, 2, 0), lease(4, 9, 0, 3)}, total, 0, api.ErrNone)
	checkChoose(t, "leaves of all levels", tree(), []api.Lease{lease(3, 5, 2, 0), lease(4, 9, 4, 3), lease(5, 9, 0, 3), lease(6, 1, 4, 4)}, total, 5, api.OK)
	heavy := tree()
	heavy[2].Weight = api.MaxWeight
	checkChoose(t, "the weight of a parent", heavy, []api.Lease{lease(1, 5, 2, 0), lease(2, 5, 3, 0), lease(3, 7, 4, 0)}, total, 2, api.OK)
	checkChoose(t, "the root alone is a leaf", []api.Queue{q(0, -1, v(1, 0))}, []api.Lease{lease(3, 0, 1, 1), lease(2, 0, 1, 1)}, total, 3, api.OK)
}
