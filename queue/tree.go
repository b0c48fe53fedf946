package queue

import (
	"iter"

	"furlong/api"
	"furlong/vec"
)

const (
	root      = 0
	aboveRoot = -1 // what stands as the root's Parent
)

// tree is a list of the form, with the place at which each Id was met. Its ways yield places, so that what stands beside the list is found by them too.
type tree struct {
	list   []api.Queue
	places map[int]int
}

func (t tree) has(id int) bool {
	_, ok := t.places[id]
	return ok
}

func (t tree) queue(id int) api.Queue {
	return t.list[t.places[id]]
}

// up yields a queue, its parent, and so on, the root last.
func (t tree) up(id int) iter.Seq[int] {
	return func(yield func(int) bool) {
		for here := id; here != aboveRoot; here = t.queue(here).Parent {
			if !yield(t.places[here]) {
				return
			}
		}
	}
}

// down yields a queue and all below it; parents stand ahead of their children, so one way through the list meets them all, rising.
func (t tree) down(id int) iter.Seq[int] {
	return func(yield func(int) bool) {
		first := t.places[id]
		if !yield(first) {
			return
		}
		met := map[int]struct{}{id: {}}
		for at := first + 1; at < len(t.list); at++ {
			q := t.list[at]
			if _, below := met[q.Parent]; !below {
				continue
			}
			met[q.Id] = struct{}{}
			if !yield(at) {
				return
			}
		}
	}
}

func (t tree) children(id int) iter.Seq[int] {
	return func(yield func(int) bool) {
		for at, q := range t.list {
			if q.Parent == id && !yield(at) {
				return
			}
		}
	}
}

func (t tree) leaves() iter.Seq[int] {
	return func(yield func(int) bool) {
		for at, q := range t.list {
			if t.isLeaf(q.Id) && !yield(at) {
				return
			}
		}
	}
}

func (t tree) isLeaf(id int) bool {
	for range t.children(id) {
		return false
	}
	return true
}

func (t tree) ids(places iter.Seq[int]) []int {
	var l []int
	for at := range places {
		l = append(l, t.list[at].Id)
	}
	return l
}

// sums asks about all uses first, for a sum that is too great is told only where each of them is right.
func (t tree) sums(uses []api.Use) ([]api.Vec, api.Errno) {
	for _, u := range uses {
		if err := t.checkUse(u); err != api.OK {
			return nil, err
		}
	}
	sums := make([]api.Vec, len(t.list))
	for _, u := range uses {
		for at := range t.up(u.Queue) {
			sum, err := vec.Add(sums[at], u.Vec)
			if err != api.OK {
				return nil, err
			}
			sums[at] = sum
		}
	}
	return sums, api.OK
}

func (t tree) checkUse(u api.Use) api.Errno {
	switch {
	case !t.has(u.Queue):
		return api.ErrNone
	case !t.isLeaf(u.Queue):
		return api.ErrLeaf
	}
	return vec.Check(u.Vec)
}
