package drf

import (
	"slices"

	"furlong/api"
	"furlong/queue"
	"furlong/vec"
)

// nobody is no place in a list.
const nobody = -1

// turns is a tree of queues in which some leaves wait. What a queue uses with all below it stands in sums, by its place in the list; how many leaves wait below it stands in waiting, by its Id.
type turns struct {
	list    []api.Queue
	sums    []api.Vec
	waiting map[int]int
	total   api.Vec
}

// read goes over all of want once for each error, because an error of any of them comes ahead of a later kind of error of all.
func read(l []api.Queue, uses []api.Use, want []int, total api.Vec) (turns, api.Errno) {
	sums, err := queue.Sums(l, uses)
	switch {
	case err != api.OK:
		return turns{}, err
	case vec.Check(total) != api.OK:
		return turns{}, api.ErrArg
	case !rises(want):
		return turns{}, api.ErrForm
	case len(want) == 0:
		return turns{}, api.ErrNone
	}
	t := turns{list: l, sums: sums, waiting: map[int]int{}, total: total}
	for _, id := range want {
		if err := t.count(id, 1); err != api.OK {
			return turns{}, err
		}
	}
	if !leaves(l, want) {
		return turns{}, api.ErrLeaf
	}
	return t, api.OK
}

func rises(l []int) bool {
	for ahead := range len(l) - 1 {
		if l[ahead] >= l[ahead+1] {
			return false
		}
	}
	return true
}

func leaves(l []api.Queue, want []int) bool {
	all, _ := queue.Leaves(l) // the list was read already, so there is no error
	for _, id := range want {
		if _, ok := slices.BinarySearch(all, id); !ok {
			return false
		}
	}
	return true
}

// count has so many leaves more wait below each queue of a path.
func (t turns) count(id, more int) api.Errno {
	path, err := queue.Path(t.list, id)
	for _, above := range path {
		t.waiting[above] += more
	}
	return err
}

// next goes down from the root to the leaf whose turn it is. At least one must wait.
func (t turns) next() int {
	here := 0 // the root stands first
descent:
	for {
		best := nobody
	children:
		for at, q := range t.list {
			switch {
			case q.Parent != t.list[here].Id || t.waiting[q.Id] == 0:
				continue children
			case best == nobody || t.before(at, best):
				best = at
			}
		}
		switch best {
		case nobody:
			break descent
		default:
			here = best
		}
	}
	return t.list[here].Id
}

// before asks strictly, so that of children alike the one that stands ahead in the list, with the least Id, stays the best.
func (t turns) before(a, b int) bool {
	order, _ := vec.Less(t.sums[a], t.list[a].Weight, t.sums[b], t.list[b].Weight, t.total) // all were asked about in read, so there is no error
	return order < 0
}
