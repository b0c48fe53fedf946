package place

import (
	"cmp"
	"slices"

	"furlong/api"
	"furlong/vec"
)

// room is a node, with what its leases have taken and what they leave free.
type room struct {
	node  api.Node
	taken [api.MaxCores]bool
	free  api.Vec
}

// read answers the rooms of the nodes, in their order, if the lists are of the form.
func read(nodes []api.Node, leases []api.Lease) ([]room, api.Errno) {
	if len(nodes) > api.MaxNodes {
		return nil, api.ErrLong
	}
	rooms, ok := open(nodes)
	if !ok {
		return nil, api.ErrForm
	}
	for _, l := range leases {
		at, ok := seek(rooms, l.Node)
		if !ok || !rooms[at].take(l) {
			return nil, api.ErrForm
		}
	}
	return rooms, api.OK
}

func open(nodes []api.Node) ([]room, bool) {
	var rooms []room
	ahead := -1
	for _, n := range nodes {
		all := api.Vec{CPU: int64(n.Cores), Mem: n.Mem}
		if n.Id <= ahead || n.Cores < 1 || n.Cores > api.MaxCores || vec.Check(all) != api.OK {
			return nil, false
		}
		ahead = n.Id
		rooms = append(rooms, room{node: n, free: all})
	}
	return rooms, true
}

func seek(rooms []room, id int) (int, bool) {
	return slices.BinarySearchFunc(rooms, id, func(r room, id int) int { return cmp.Compare(r.node.Id, id) })
}

// take tells whether the lease is of the form and leaves those ahead of it what they have. Each is taken from what is left, so no sum of Mems grows without bound.
func (r *room) take(l api.Lease) bool {
	left, err := vec.Sub(r.free, api.Vec{CPU: int64(len(l.Cores)), Mem: l.Mem})
	if err != api.OK {
		return false
	}
	r.free = left
	ahead := -1
	for _, core := range l.Cores {
		if core <= ahead || core >= r.node.Cores || r.taken[core] {
			return false
		}
		ahead = core
		r.taken[core] = true
	}
	return true
}

// first answers so many of the free cores, which must be there. They are handed on without the room behind them: who appends to them is not to lay over the cores that stay free.
func (r *room) first(count int64) []int {
	var cores []int
	for core, taken := range r.taken[:r.node.Cores] {
		if !taken {
			cores = append(cores, core)
		}
	}
	return cores[:count:count]
}

// tightest tells the room with the fewest free cores of those in which the need fits; it asks strictly, so that of several the least Id stays.
func tightest(rooms []room, need api.Vec) (int, bool) {
	best, found := 0, false
	for at, r := range rooms {
		if vec.Fits(need, r.free) && (!found || r.free.CPU < rooms[best].free.CPU) {
			best, found = at, true
		}
	}
	return best, found
}
