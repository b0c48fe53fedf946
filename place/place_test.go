package place_test

import (
	"math"
	"testing"

	"furlong/api"
)

func TestChapterExample(t *testing.T) {
	nodes := []api.Node{node(1, 2, 8), node(2, 4, 8)}
	leases := []api.Lease{lease(2, 0, 0, 3)}
	checkFree(t, "example 1", nodes, leases, 2, []int{1, 2}, 8, api.OK)
	checkFind(t, "example 1", nodes, leases, v(2, 0), 1, []int{0, 1}, api.OK)
	checkFind(t, "example 1", nodes, leases, v(3, 0), 0, nil, api.ErrFull)
}

func TestFreeIsWhatNoLeaseHas(t *testing.T) {
	nodes := []api.Node{node(0, 1, 0), node(3, 6, 10), node(4, 64, api.MaxRes), node(math.MaxInt, 2, 5)}
	for _, c := range []struct {
		name   string
		leases []api.Lease
		id     int
		cores  []int
		mem    int64
	}{
		{"no leases, one core, no memory", nil, 0, []int{0}, 0},
		{"no leases", nil, 3, upTo(6), 10},
		{"no leases, all cores and memory that there can be", nil, 4, upTo(64), api.MaxRes},
		{"the greatest Id", nil, math.MaxInt, []int{0, 1}, 5},
		{"one lease", []api.Lease{lease(3, 4, 0, 2, 5)}, 3, []int{1, 3, 4}, 6},
		{"leases between each other's cores", []api.Lease{lease(3, 1, 1, 4), lease(3, 2, 0, 3)}, 3, []int{2, 5}, 7},
		{"leases in any order", []api.Lease{lease(3, 2, 5), lease(4, 7, 1), lease(3, 1, 0)}, 3, []int{1, 2, 3, 4}, 7},
		{"leases on other nodes alone", []api.Lease{lease(0, 0, 0), lease(4, 9, 0, 1, 2)}, 3, upTo(6), 10},
		{"a lease of no cores", []api.Lease{lease(3, 4)}, 3, upTo(6), 6},
		{"a lease of no cores and no memory", []api.Lease{lease(3, 0)}, 3, upTo(6), 10},
		{"a lease of cores alone", []api.Lease{lease(3, 0, 0)}, 3, []int{1, 2, 3, 4, 5}, 10},
		{"all cores in one lease", []api.Lease{lease(3, 1, upTo(6)...)}, 3, nil, 9},
		{"all cores in two leases", []api.Lease{lease(3, 1, 0, 2, 4), lease(3, 1, 1, 3, 5)}, 3, nil, 8},
		{"the one core", []api.Lease{lease(0, 0, 0)}, 0, nil, 0},
		{"all 64 cores", []api.Lease{lease(4, 0, upTo(64)...)}, 4, nil, api.MaxRes},
		{"the last of 64 cores", []api.Lease{lease(4, 0, 63)}, 4, upTo(63), api.MaxRes},
		{"just all memory in one lease", []api.Lease{lease(3, 10, 1)}, 3, []int{0, 2, 3, 4, 5}, 0},
		{"just all memory in two leases", []api.Lease{lease(3, 9, 1), lease(3, 1, 0)}, 3, []int{2, 3, 4, 5}, 0},
		{"just all memory of MaxRes", []api.Lease{lease(4, api.MaxRes-1, 0), lease(4, 1, 1)}, 4, upTo(64)[2:], 0},
		{"a lease that is Stop", []api.Lease{{Node: 3, Cores: []int{5}, Mem: 1, Stop: true}}, 3, upTo(5), 9},
		{"a lease whose other numbers are any", []api.Lease{{Task: -9, Queue: -9, Node: 3, Cores: []int{5}, Mem: 1, Since: 8, Until: -8}}, 3, upTo(5), 9},
	} {
		checkFree(t, c.name, nodes, c.leases, c.id, c.cores, c.mem, api.OK)
	}
}

func TestFreeOfNoSuchNode(t *testing.T) {
	nodes := []api.Node{node(1, 2, 8), node(4, 4, 8)}
	for _, id := range []int{math.MinInt, -1, 0, 2, 3, 5, math.MaxInt} {
		checkFree(t, "no such node", nodes, []api.Lease{lease(4, 1, 1)}, id, nil, 0, api.ErrNone)
		checkFree(t, "no nodes at all", nil, nil, id, nil, 0, api.ErrNone)
		checkFree(t, "an empty list of nodes", []api.Node{}, []api.Lease{}, id, nil, 0, api.ErrNone)
	}
}

func TestTotalIsAllTogether(t *testing.T) {
	full := many(64)
	for i := range full {
		full[i] = node(i, 64, api.MaxRes/64)
	}
	for _, c := range []struct {
		name  string
		nodes []api.Node
		total api.Vec
	}{
		{"no nodes", nil, v(0, 0)},
		{"an empty list", []api.Node{}, v(0, 0)},
		{"one core and no memory", []api.Node{node(0, 1, 0)}, v(1, 0)},
		{"some nodes", []api.Node{node(1, 2, 8), node(2, 4, 8), node(9, 1, 3)}, v(7, 19)},
		{"64 nodes", many(64), v(64, 0)},
		{"64 nodes of 64 cores, MaxRes together", full, v(4096, api.MaxRes)},
		{"MaxRes in one node", []api.Node{node(0, 64, api.MaxRes)}, v(64, api.MaxRes)},
		{"MaxRes in two nodes", []api.Node{node(0, 1, api.MaxRes-1), node(1, 1, 1)}, v(2, api.MaxRes)},
		{"Inc and Beat of any kind", []api.Node{{Id: 3, Cores: 2, Mem: 7, Inc: -4, Beat: -5}}, v(2, 7)},
	} {
		checkTotal(t, c.name, c.nodes, c.total, api.OK)
	}
	full[63].Mem++
	for _, nodes := range [][]api.Node{
		full,
		{node(0, 1, api.MaxRes), node(1, 1, 1)},
		{node(0, 1, 1), node(1, 1, api.MaxRes)},
		{node(0, 1, api.MaxRes), node(1, 1, api.MaxRes), node(2, 1, 0)},
	} {
		checkTotal(t, "more than MaxRes", nodes, api.Vec{}, api.ErrOver)
	}
}

// Only Total asks about all nodes together.
func TestFreeAndFindAboveMaxRes(t *testing.T) {
	nodes := []api.Node{node(0, 1, api.MaxRes), node(1, 1, api.MaxRes)}
	checkFree(t, "nodes above MaxRes together", nodes, []api.Lease{lease(0, api.MaxRes, 0), lease(1, api.MaxRes)}, 1, []int{0}, 0, api.OK)
	checkFind(t, "nodes above MaxRes together", nodes, []api.Lease{lease(0, 1)}, v(1, api.MaxRes), 1, []int{0}, api.OK)
}

func TestFindTheFewestFreeCores(t *testing.T) {
	nodes := []api.Node{node(1, 4, 9), node(2, 2, 9), node(5, 2, 1), node(8, 64, 100)}
	for _, c := range []struct {
		name   string
		leases []api.Lease
		need   api.Vec
		id     int
		cores  []int
	}{
		{"the smallest node", nil, v(1, 1), 2, []int{0}},
		{"as many free cores: the least Id", nil, v(2, 0), 2, []int{0, 1}},
		{"as many free cores by a lease: the least Id", []api.Lease{lease(1, 0, 0, 2)}, v(2, 1), 1, []int{1, 3}},
		{"fewer free cores behind", []api.Lease{lease(5, 0, 0)}, v(1, 1), 5, []int{1}},
		{"fewest free cores, not the smallest node", []api.Lease{lease(1, 0, 0, 1, 2)}, v(1, 1), 1, []int{3}},
		{"fewest free cores, too little memory", nil, v(2, 2), 2, []int{0, 1}},
		{"its memory is leased", []api.Lease{lease(2, 8, 1)}, v(1, 2), 1, []int{0}},
		{"memory that just fits", []api.Lease{lease(2, 8, 1)}, v(1, 1), 2, []int{0}},
		{"no memory needed, and none free", []api.Lease{lease(2, 9, 1)}, v(1, 0), 2, []int{0}},
		{"a node without a free core", []api.Lease{lease(2, 0, 0, 1), lease(5, 0, 0, 1)}, v(1, 0), 1, []int{0}},
		{"the first of the free cores", []api.Lease{lease(1, 0, 1)}, v(3, 0), 1, []int{0, 2, 3}},
		{"the first of more free cores than needed", []api.Lease{lease(8, 0, 0, 2, 3, 5)}, v(5, 50), 8, []int{1, 4, 6, 7, 8}},
		{"all 64 cores", nil, v(64, 100), 8, upTo(64)},
		{"a lease of no cores", []api.Lease{lease(2, 9)}, v(2, 1), 5, []int{0, 1}},
	} {
		checkFind(t, c.name, nodes, c.leases, c.need, c.id, c.cores, api.OK)
	}
}

func TestFindJustFits(t *testing.T) {
	nodes := []api.Node{node(3, 4, 9), node(6, 64, 2)}
	leases := []api.Lease{lease(3, 2, 1), lease(6, 1, 0)}
	checkFind(t, "just fits", nodes, leases, v(3, 7), 3, []int{0, 2, 3}, api.OK)
	checkFind(t, "a core more, and less memory", nodes, leases, v(4, 1), 6, []int{1, 2, 3, 4}, api.OK)
	checkFind(t, "a core more", nodes, leases, v(4, 7), 0, nil, api.ErrFull)
	checkFind(t, "memory one more", nodes, leases, v(3, 8), 0, nil, api.ErrFull)
	checkFind(t, "63 of 64 cores free", nodes, leases, v(63, 1), 6, upTo(64)[1:], api.OK)
	checkFind(t, "64 cores, 63 free", nodes, leases, v(64, 1), 0, nil, api.ErrFull)
	checkFind(t, "one core free", []api.Node{node(0, 1, 0)}, nil, v(1, 0), 0, []int{0}, api.OK)
	checkFind(t, "one core free, no memory", []api.Node{node(0, 1, 0)}, nil, v(1, 1), 0, nil, api.ErrFull)
	checkFind(t, "all memory", []api.Node{node(2, 1, api.MaxRes)}, nil, v(1, api.MaxRes), 2, []int{0}, api.OK)
	checkFind(t, "cores on no one node", []api.Node{node(0, 1, 5), node(1, 1, 5)}, nil, v(2, 1), 0, nil, api.ErrFull)
}

func TestFindAmongMany(t *testing.T) {
	nodes := many(64)
	checkFind(t, "64 nodes alike", nodes, nil, v(1, 0), 0, []int{0}, api.OK)
	var leases []api.Lease
	for _, n := range nodes[:63] {
		leases = append(leases, lease(n.Id, 0, 0))
	}
	checkFind(t, "the last of 64 nodes", nodes, leases, v(1, 0), 126, []int{0}, api.OK)
	checkFind(t, "64 nodes, all leased", nodes, append(leases, lease(126, 0, 0)), v(1, 0), 0, nil, api.ErrFull)
	checkFind(t, "no nodes", nil, nil, v(1, 0), 0, nil, api.ErrFull)
	checkFind(t, "an empty list", []api.Node{}, []api.Lease{}, v(1, 0), 0, nil, api.ErrFull)
}

func TestWrongNeeds(t *testing.T) {
	for _, need := range []api.Vec{
		v(0, 0), v(-1, 0), v(65, 0), v(math.MinInt64, 0), v(math.MaxInt64, 0), v(api.MaxRes, 0), v(1<<32+1, 0),
		v(1, -1), v(1, api.MaxRes+1), v(1, math.MinInt64), v(64, math.MaxInt64), v(0, -1),
	} {
		checkFind(t, "a wrong need", []api.Node{node(1, 64, api.MaxRes)}, nil, need, 0, nil, api.ErrArg)
		checkFind(t, "a wrong need, no nodes", nil, nil, need, 0, nil, api.ErrArg)
		checkFind(t, "a wrong need, a wrong node", []api.Node{node(-1, 64, 1)}, nil, need, 0, nil, api.ErrForm)
		checkFind(t, "a wrong need, a wrong lease", nil, []api.Lease{lease(0, 0)}, need, 0, nil, api.ErrForm)
		checkFind(t, "a wrong need, 65 nodes", many(65), nil, need, 0, nil, api.ErrLong)
	}
}
