package victim_test

import (
	"math"
	"testing"

	"furlong/api"
)

func TestStarvedExample(t *testing.T) {
	l := append(flat(v(1, 0), v(0, 0)), q(4, 0, v(1, 1)))
	leases := []api.Lease{lease(3, 1, 1, 0), lease(8, 1, 1, 0), lease(5, 2, 1, 0)}
	checkStarved(t, "example 1, queue 1", l, leases, []api.Use{use(1, 1, 0)}, nil, api.OK)
	checkStarved(t, "example 1, queue 4", l, leases, []api.Use{use(4, 1, 1)}, []int{4}, api.OK)
	checkStarved(t, "example 1, both", l, leases, []api.Use{use(1, 1, 0), use(4, 1, 1)}, []int{4}, api.OK)
}

func TestStarved(t *testing.T) {
	l := flat(v(4, 8), v(0, 0), v(2, 0), v(0, 5))
	for _, c := range []struct {
		name   string
		leases []api.Lease
		need   []api.Use
		want   []int
	}{
		{"nobody needs anything", []api.Lease{lease(1, 1, 1, 1)}, nil, nil},
		{"no leases: the whole Min", nil, []api.Use{use(1, 4, 8)}, []int{1}},
		{"no leases: one core above the Min", nil, []api.Use{use(1, 5, 8)}, nil},
		{"no leases: one of memory above the Min", nil, []api.Use{use(1, 4, 9)}, nil},
		{"it just fits with what is used", []api.Lease{lease(1, 1, 3, 6)}, []api.Use{use(1, 1, 2)}, []int{1}},
		{"one core more than what is left", []api.Lease{lease(1, 1, 3, 6)}, []api.Use{use(1, 2, 2)}, nil},
		{"one of memory more than what is left", []api.Lease{lease(1, 1, 3, 6)}, []api.Use{use(1, 1, 3)}, nil},
		{"several leases are summed", []api.Lease{lease(1, 1, 1, 2), lease(2, 1, 2, 4)}, []api.Use{use(1, 1, 2)}, []int{1}},
		{"several leases are summed, one more", []api.Lease{lease(1, 1, 1, 2), lease(2, 1, 2, 5)}, []api.Use{use(1, 1, 2)}, nil},
		{"leases that are Stop are used still", []api.Lease{stop(lease(1, 1, 3, 6)), lease(2, 1, 1, 1)}, []api.Use{use(1, 1, 1)}, nil},
		{"one that is Stop, and it just fits", []api.Lease{stop(lease(1, 1, 3, 6))}, []api.Use{use(1, 1, 2)}, []int{1}},
		{"leases of others don't count", []api.Lease{lease(1, 2, 9, 9), lease(2, 3, 9, 9)}, []api.Use{use(1, 4, 8)}, []int{1}},
		{"without a Min", nil, []api.Use{use(2, 1, 0)}, nil},
		{"without a Min, memory alone", nil, []api.Use{use(2, 0, 1)}, nil},
		{"without a Min, a need of nothing", nil, []api.Use{use(2, 0, 0)}, []int{2}},
		{"without a Min, something used, a need of nothing", []api.Lease{lease(1, 2, 1, 0)}, []api.Use{use(2, 0, 0)}, nil},
		{"a Min of cores alone", nil, []api.Use{use(3, 2, 0)}, []int{3}},
		{"a Min of cores alone, memory is needed too", nil, []api.Use{use(3, 2, 1)}, nil},
		{"a Min of memory alone", nil, []api.Use{use(4, 0, 5)}, []int{4}},
		{"a Min of memory alone, a core is needed too", nil, []api.Use{use(4, 1, 5)}, nil},
		{"above the Min already, a need of nothing", []api.Lease{lease(1, 1, 5, 0)}, []api.Use{use(1, 0, 0)}, nil},
		{"just at the Min, a need of nothing", []api.Lease{lease(1, 1, 4, 8)}, []api.Use{use(1, 0, 0)}, []int{1}},
		{"only who is in need is told", nil, []api.Use{use(3, 1, 0)}, []int{3}},
		{"several, rising", []api.Lease{lease(1, 3, 1, 0)}, []api.Use{use(1, 1, 1), use(2, 1, 1), use(3, 1, 0), use(4, 0, 1)}, []int{1, 3, 4}},
		{"several, one of them not", []api.Lease{lease(1, 3, 2, 0)}, []api.Use{use(1, 1, 1), use(3, 1, 0), use(4, 0, 1)}, []int{1, 4}},
	} {
		checkStarved(t, c.name, l, c.leases, c.need, c.want, api.OK)
	}
}

func TestStarvedAtMaxRes(t *testing.T) {
	most := v(api.MaxRes, api.MaxRes)
	alone := []api.Queue{q(0, -1, most)}
	checkStarved(t, "the root alone is a leaf", alone, nil, []api.Use{use(0, api.MaxRes, api.MaxRes)}, []int{0}, api.OK)
	checkStarved(t, "just MaxRes together", alone, []api.Lease{lease(1, 0, 1, 1)}, []api.Use{use(0, api.MaxRes-1, api.MaxRes-1)}, []int{0}, api.OK)
	checkStarved(t, "cores above MaxRes together", alone, []api.Lease{lease(1, 0, 1, 1)}, []api.Use{use(0, api.MaxRes, 0)}, nil, api.OK)
	checkStarved(t, "memory above MaxRes together", alone, []api.Lease{lease(1, 0, 0, api.MaxRes)}, []api.Use{use(0, 0, 1)}, nil, api.OK)
	checkStarved(t, "MaxRes twice", alone, []api.Lease{lease(1, 0, 0, api.MaxRes)}, []api.Use{use(0, api.MaxRes, api.MaxRes)}, nil, api.OK)
}

// The Min of a leaf counts, not that of a queue above it.
func TestStarvedByTheLeafsOwnMin(t *testing.T) {
	all := []api.Use{use(1, 1, 1), use(5, 2, 0), use(7, 0, 0), use(9, 0, 3)}
	checkStarved(t, "each of a tree", tree(), nil, all, []int{1, 5, 7, 9}, api.OK)
	checkStarved(t, "within the Min of the parent, above its own", tree(), nil, []api.Use{use(5, 3, 0), use(9, 1, 3)}, nil, api.OK)
	checkStarved(t, "a sibling is above its Min", tree(), []api.Lease{lease(1, 9, 9, 9)}, []api.Use{use(5, 2, 0)}, []int{5}, api.OK)
}

func TestWrongNeeds(t *testing.T) {
	for _, c := range []struct {
		name string
		need []api.Use
		err  api.Errno
	}{
		{"no queue", []api.Use{use(3, 1, 1)}, api.ErrNone},
		{"no queue below 0, nothing is ahead", []api.Use{use(-1, 1, 1)}, api.ErrNone},
		{"no queue at the end of numbers", []api.Use{use(math.MinInt, 1, 1)}, api.ErrNone},
		{"no queue behind leaves", []api.Use{use(1, 1, 1), use(9, 1, 1), use(10, 1, 1)}, api.ErrNone},
		{"no queue, and no amount", []api.Use{use(3, -1, 1)}, api.ErrNone},
		{"the root", []api.Use{use(0, 1, 1)}, api.ErrLeaf},
		{"no leaf", []api.Use{use(1, 1, 1), use(2, 1, 1)}, api.ErrLeaf},
		{"no leaf, and no amount", []api.Use{use(2, -1, 1)}, api.ErrLeaf},
		{"cores below 0", []api.Use{use(1, -1, 1)}, api.ErrArg},
		{"memory below 0", []api.Use{use(1, 1, -1)}, api.ErrArg},
		{"cores above MaxRes", []api.Use{use(1, api.MaxRes+1, 1)}, api.ErrArg},
		{"memory above MaxRes", []api.Use{use(1, 1, api.MaxRes+1)}, api.ErrArg},
		{"no amount at all", []api.Use{use(7, math.MaxInt64, math.MinInt64)}, api.ErrArg},
		{"falls", []api.Use{use(5, 1, 1), use(1, 1, 1)}, api.ErrForm},
		{"twice", []api.Use{use(5, 1, 1), use(5, 1, 1)}, api.ErrForm},
		{"twice, behind", []api.Use{use(1, 1, 1), use(5, 1, 1), use(5, 1, 1)}, api.ErrForm},
		{"twice, starved", []api.Use{use(1, 1, 1), use(1, 1, 1)}, api.ErrForm},
		{"no amount behind one that is starved", []api.Use{use(1, 1, 1), use(9, 0, -1)}, api.ErrArg},
		{"falls to no queue", []api.Use{use(5, 1, 1), use(3, 1, 1)}, api.ErrForm},
		{"falls to no leaf", []api.Use{use(5, 1, 1), use(2, 1, 1)}, api.ErrForm},
		{"twice, and no amount", []api.Use{use(5, 1, 1), use(5, -1, 1)}, api.ErrForm},
		{"falls from above 0 to below", []api.Use{use(1, 1, 1), use(math.MinInt, 1, 1)}, api.ErrForm},
		{"no queue, then falls", []api.Use{use(3, 1, 1), use(1, 1, 1)}, api.ErrNone},
		{"no leaf, then falls", []api.Use{use(2, 1, 1), use(1, 1, 1)}, api.ErrLeaf},
		{"no amount, then falls", []api.Use{use(5, -1, 1), use(1, 1, 1)}, api.ErrArg},
		{"no amount, then no queue", []api.Use{use(1, -1, 1), use(3, 1, 1)}, api.ErrArg},
		{"no amount, then no leaf", []api.Use{use(1, -1, 1), use(2, 1, 1)}, api.ErrArg},
		{"no leaf, then no queue", []api.Use{use(2, 1, 1), use(3, 1, 1)}, api.ErrLeaf},
		{"no queue, then no leaf", []api.Use{use(-3, 1, 1), use(0, 1, 1)}, api.ErrNone},
	} {
		checkStarved(t, "need: "+c.name, tree(), []api.Lease{lease(1, 1, 1, 1)}, c.need, nil, c.err)
		checkStarved(t, "no leases, need: "+c.name, tree(), nil, c.need, nil, c.err)
	}
}
