package table

import (
	"cmp"
	"iter"
	"slices"

	"furlong/api"
	"furlong/deep"
)

// desk is a copy of a state, to be changed: what was handed in stays as it was, and nothing of it is kept.
type desk struct {
	api.State
}

func lay(s api.State) *desk {
	return &desk{deep.State(s)}
}

// each yields what stands in a list at its place, so that it can be changed there.
func each[T any](l []T) iter.Seq[*T] {
	return func(yield func(*T) bool) {
		for at := range l {
			if !yield(&l[at]) {
				return
			}
		}
	}
}

func (d *desk) tasks() iter.Seq[*api.Task] {
	return each(d.Tasks)
}

// leases yields those that are so.
func (d *desk) leases(are func(api.Lease) bool) iter.Seq[*api.Lease] {
	return func(yield func(*api.Lease) bool) {
		for l := range each(d.Leases) {
			if are(*l) && !yield(l) {
				return
			}
		}
	}
}

func ofTask(id int) func(api.Lease) bool {
	return func(l api.Lease) bool { return l.Task == id }
}

func ofQueue(id int) func(api.Lease) bool {
	return func(l api.Lease) bool { return l.Queue == id }
}

func onNode(id int) func(api.Lease) bool {
	return func(l api.Lease) bool { return l.Node == id }
}

// lease, task, node: the first one, or nil, if there is none.
func (d *desk) lease(are func(api.Lease) bool) *api.Lease {
	for l := range d.leases(are) {
		return l
	}
	return nil
}

func (d *desk) task(id int) *api.Task {
	for t := range d.tasks() {
		if t.Id == id {
			return t
		}
	}
	return nil
}

func (d *desk) node(id int) *api.Node {
	for n := range each(d.Nodes) {
		if n.Id == id {
			return n
		}
	}
	return nil
}

// takeBack has leases be gone. A task of theirs that was Leased is next then; one that was killed stays so.
func (d *desk) takeBack(next int, gone func(api.Lease) bool) {
	for l := range d.leases(gone) {
		if t := d.task(l.Task); t != nil && t.State == api.Leased {
			t.State = next
		}
	}
	d.Leases = slices.DeleteFunc(d.Leases, gone)
}

// put lays x at its place in a list that rises by what key tells.
func put[T any](l []T, x T, key func(T) int) []T {
	at, _ := slices.BinarySearchFunc(l, x, func(a, b T) int { return cmp.Compare(key(a), key(b)) })
	return slices.Insert(l, at, x)
}
