package place_test

import (
	"math"
	"testing"

	"furlong/api"
)

type wrongNodes struct {
	name  string
	nodes []api.Node
	err   api.Errno
}

func badNodes() []wrongNodes {
	long := many(65)
	wrongLong := many(65)
	wrongLong[3].Cores = 0
	return []wrongNodes{
		{"65 nodes", long, api.ErrLong},
		{"65 nodes, one wrong", wrongLong, api.ErrLong},
		{"65 nodes, none of the form", make([]api.Node, 65), api.ErrLong},
		{"the first Id -1", []api.Node{node(-1, 1, 1)}, api.ErrForm},
		{"the least Id", []api.Node{node(math.MinInt, 1, 1), node(1, 1, 1)}, api.ErrForm},
		{"an Id twice", []api.Node{node(0, 1, 1), node(1, 1, 1), node(1, 1, 1)}, api.ErrForm},
		{"the Id 0 twice", []api.Node{node(0, 1, 1), node(0, 1, 1)}, api.ErrForm},
		{"an Id that falls", []api.Node{node(0, 1, 1), node(2, 1, 1), node(1, 1, 1)}, api.ErrForm},
		{"an Id that falls below 0", []api.Node{node(0, 1, 1), node(-1, 1, 1)}, api.ErrForm},
		{"no cores", []api.Node{node(1, 0, 1)}, api.ErrForm},
		{"no cores behind", []api.Node{node(0, 1, 1), node(1, 0, 1)}, api.ErrForm},
		{"cores below 0", []api.Node{node(1, -1, 1)}, api.ErrForm},
		{"65 cores", []api.Node{node(1, 65, 1)}, api.ErrForm},
		{"65 cores behind", []api.Node{node(0, 64, 1), node(1, 65, 1)}, api.ErrForm},
		{"the most cores that a number tells", []api.Node{node(1, math.MaxInt, 1)}, api.ErrForm},
		{"the fewest cores that a number tells", []api.Node{node(1, math.MinInt, 1)}, api.ErrForm},
		{"Mem below 0", []api.Node{node(1, 1, -1)}, api.ErrForm},
		{"Mem above MaxRes", []api.Node{node(1, 1, api.MaxRes+1)}, api.ErrForm},
		{"Mem above MaxRes behind", []api.Node{node(0, 1, 1), node(1, 1, api.MaxRes+1)}, api.ErrForm},
		{"Mems above MaxRes together, and an Id twice", []api.Node{node(0, 1, api.MaxRes), node(1, 1, api.MaxRes), node(1, 1, 1)}, api.ErrForm},
		{"the greatest Mem", []api.Node{node(1, 1, math.MaxInt64)}, api.ErrForm},
		{"the least Mem", []api.Node{node(1, 1, math.MinInt64)}, api.ErrForm},
	}
}

func TestWrongNodes(t *testing.T) {
	for _, c := range badNodes() {
		checkTotal(t, c.name, c.nodes, api.Vec{}, c.err)
		for _, leases := range [][]api.Lease{nil, {lease(1, 1, 0)}, {lease(77, -1, 5, 5)}} {
			for _, id := range []int{-1, 0, 1, 77} {
				checkFree(t, c.name, c.nodes, leases, id, nil, 0, c.err)
			}
			for _, need := range []api.Vec{v(1, 0), v(64, api.MaxRes), v(0, -1)} {
				checkFind(t, c.name, c.nodes, leases, need, 0, nil, c.err)
			}
		}
	}
}

// Leases that are wrong on the nodes 0 (1 core, no memory), 1 (4 cores, 9) and 4 (64 cores, MaxRes).
func badLeases() map[string][]api.Lease {
	return map[string][]api.Lease{
		"no such node":                           {lease(2, 0)},
		"no such node, below 0":                  {lease(-1, 0)},
		"no such node, behind all":               {lease(5, 0, 0)},
		"no such node behind a right lease":      {lease(1, 0, 0), lease(2, 0, 0)},
		"a core twice":                           {lease(1, 0, 1, 1)},
		"cores that fall":                        {lease(1, 0, 2, 1)},
		"cores that fall behind":                 {lease(1, 0, 0, 3, 2)},
		"a core below 0":                         {lease(1, 0, -1)},
		"the least core":                         {lease(1, 0, math.MinInt)},
		"a core below 0 ahead of others":         {lease(1, 0, -1, 0)},
		"a core that is not the node's":          {lease(1, 0, 4)},
		"a core that is another node's":          {lease(0, 0, 1)},
		"a core behind the node's, among some":   {lease(1, 0, 0, 1, 4)},
		"core 64 of 64":                          {lease(4, 0, 64)},
		"the greatest core":                      {lease(4, 0, math.MaxInt)},
		"more cores than the node has":           {lease(1, 0, upTo(5)...)},
		"more cores than there can be":           {lease(4, 0, upTo(65)...)},
		"Mem below 0":                            {lease(1, -1, 0)},
		"the least Mem":                          {lease(1, math.MinInt64, 0)},
		"Mem above MaxRes":                       {lease(4, api.MaxRes+1, 0)},
		"the greatest Mem":                       {lease(4, math.MaxInt64, 0)},
		"Mem below 0 behind a right one":         {lease(1, 5, 0), lease(1, -1, 1)},
		"Mem below 0 makes up for nothing":       {lease(1, -1, 0), lease(1, 10, 1)},
		"Mem above the node's":                   {lease(1, 10, 0)},
		"Mem where there is none":                {lease(0, 1)},
		"Mems above the node's together":         {lease(1, 9, 0), lease(1, 1, 1)},
		"Mems above the node's, without cores":   {lease(1, 5), lease(1, 5)},
		"Mems above MaxRes together":             {lease(4, api.MaxRes, 0), lease(4, 1, 1)},
		"Mems far above MaxRes together":         {lease(4, api.MaxRes, 0), lease(4, api.MaxRes, 1), lease(4, api.MaxRes, 2)},
		"a core in two leases":                   {lease(1, 0, 1), lease(1, 0, 1)},
		"a core in two leases, among others":     {lease(1, 0, 0, 2), lease(4, 0, 1), lease(1, 0, 1, 2)},
		"a core in two leases, one that is Stop": {{Node: 1, Cores: []int{1}, Stop: true}, lease(1, 0, 1)},
		"a node's one core in two leases":        {lease(0, 0, 0), lease(0, 0, 0)},
		"all cores, and one again":               {lease(1, 0, upTo(4)...), lease(1, 0, 3)},
		"wrong behind a right lease":             {lease(4, 1, upTo(64)...), lease(1, 0, 4)},
		"wrong ahead of a right lease":           {lease(1, 0, 4), lease(4, 1, upTo(64)...)},
	}
}

func TestWrongLeases(t *testing.T) {
	nodes := []api.Node{node(0, 1, 0), node(1, 4, 9), node(4, 64, api.MaxRes)}
	for name, leases := range badLeases() {
		for _, id := range []int{0, 1, 2, 4} {
			checkFree(t, name, nodes, leases, id, nil, 0, api.ErrForm)
		}
		for _, need := range []api.Vec{v(1, 0), v(64, api.MaxRes), v(0, 0)} {
			checkFind(t, name, nodes, leases, need, 0, nil, api.ErrForm)
		}
		checkFind(t, name+", and 65 nodes", many(65), leases, v(1, 0), 0, nil, api.ErrLong)
		checkFree(t, name+", and no nodes", nil, leases, 0, nil, 0, api.ErrForm)
	}
}

// A lease's Mem may be 0 and MaxRes, and there may be more leases than cores.
func TestLeasesAtTheirEnds(t *testing.T) {
	nodes := []api.Node{node(0, 1, 0), node(4, 64, api.MaxRes)}
	checkFree(t, "Mem of MaxRes", nodes, []api.Lease{lease(4, api.MaxRes, upTo(64)...)}, 4, nil, 0, api.OK)
	var leases []api.Lease
	for range 1000 {
		leases = append(leases, lease(0, 0), lease(4, 1))
	}
	checkFree(t, "2000 leases of no cores", nodes, leases, 4, upTo(64), api.MaxRes-1000, api.OK)
	checkFind(t, "2000 leases of no cores", nodes, leases, v(1, 0), 0, []int{0}, api.OK)
}
