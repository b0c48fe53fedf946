package place_test

import (
	"slices"
	"testing"

	"furlong/api"
	"furlong/place"
)

func v(cpu, mem int64) api.Vec { return api.Vec{CPU: cpu, Mem: mem} }

func node(id, cores int, mem int64) api.Node { return api.Node{Id: id, Cores: cores, Mem: mem} }

func lease(node int, mem int64, cores ...int) api.Lease {
	return api.Lease{Node: node, Mem: mem, Cores: cores}
}

// upTo is n cores, from 0 on.
func upTo(n int) []int {
	var l []int
	for i := range n {
		l = append(l, i)
	}
	return l
}

// many is n nodes of one core and no memory, Ids 0, 2, 4 and on.
func many(n int) []api.Node {
	var l []api.Node
	for i := range n {
		l = append(l, node(2*i, 1, 0))
	}
	return l
}

func checkFree(t *testing.T, what string, nodes []api.Node, leases []api.Lease, id int, cores []int, mem int64, err api.Errno) {
	t.Helper()
	for range 2 { // P2: the second time as the first time
		if c, m, e := place.Free(nodes, leases, id); !slices.Equal(c, cores) || m != mem || e != err {
			t.Errorf("P7.1: Free of %s = %v, %d, %d; want %v, %d, %d", what, c, m, e, cores, mem, err)
		}
	}
}

func checkTotal(t *testing.T, what string, nodes []api.Node, total api.Vec, err api.Errno) {
	t.Helper()
	for range 2 {
		if x, e := place.Total(nodes); x != total || e != err {
			t.Errorf("P7.1: Total of %s = %v, %d; want %v, %d", what, x, e, total, err)
		}
	}
}

func checkFind(t *testing.T, what string, nodes []api.Node, leases []api.Lease, need api.Vec, id int, cores []int, err api.Errno) {
	t.Helper()
	for range 2 {
		if n, c, e := place.Find(nodes, leases, need); n != id || !slices.Equal(c, cores) || e != err {
			t.Errorf("P7.2: Find of %v, %s = %d, %v, %d; want %d, %v, %d", need, what, n, c, e, id, cores, err)
		}
	}
}
