package drf_test

import (
	"slices"
	"testing"

	"furlong/api"
	"furlong/drf"
)

func v(cpu, mem int64) api.Vec { return api.Vec{CPU: cpu, Mem: mem} }

// q is a queue with much room and no guarantee.
func q(id, parent int, weight int64) api.Queue {
	return api.Queue{Id: id, Parent: parent, Weight: weight, Quota: v(api.MaxRes, api.MaxRes)}
}

func use(id int, cpu, mem int64) api.Use { return api.Use{Queue: id, Vec: v(cpu, mem)} }

// tree is 0 over 1, 2 and 7; 2 over 5 and 9; 5 over 6 and 8. All weights are 1.
func tree() []api.Queue {
	return []api.Queue{q(0, -1, 1), q(1, 0, 1), q(2, 0, 1), q(5, 2, 1), q(6, 5, 1), q(7, 0, 1), q(8, 5, 1), q(9, 2, 1)}
}

// flat is the root with a child for each weight, Ids 1 and on.
func flat(weights ...int64) []api.Queue {
	l := []api.Queue{q(0, -1, 1)}
	for i, w := range weights {
		l = append(l, q(i+1, 0, w))
	}
	return l
}

// chain is n queues, each below the one ahead.
func chain(n int) []api.Queue {
	var l []api.Queue
	for i := range n {
		l = append(l, q(i, i-1, 1))
	}
	return l
}

// with is a copy of l, where the queue at a place is another one.
func with(l []api.Queue, at int, p api.Queue) []api.Queue {
	l = slices.Clone(l)
	l[at] = p
	return l
}

// call is what both functions are handed.
type call struct {
	name  string
	l     []api.Queue
	uses  []api.Use
	want  []int
	total api.Vec
}

// tells asks Order for a whole order, and Choose for its first one and for what it tells without those ahead.
func (c call) tells(t *testing.T, order ...int) {
	t.Helper()
	for range 2 { // P2: the second time as the first time
		if got, err := drf.Order(c.l, c.uses, c.want, c.total); !slices.Equal(got, order) || err != api.OK {
			t.Errorf("P6.2: Order, %s = %v, %d; want %v", c.name, got, err, order)
		}
	}
	left := slices.Clone(c.want)
	for _, id := range order {
		if got, err := drf.Choose(c.l, c.uses, left, c.total); got != id || err != api.OK {
			t.Errorf("P6.1: Choose of %v, %s = %d, %d; want %d", left, c.name, got, err, id)
		}
		left = slices.DeleteFunc(left, func(x int) bool { return x == id })
	}
	if len(left) > 0 {
		t.Errorf("the test's order of %s lacks %v", c.name, left)
	}
}

// fails asks both for an error, with nothing beside it.
func (c call) fails(t *testing.T, want api.Errno) {
	t.Helper()
	if got, err := drf.Choose(c.l, c.uses, c.want, c.total); got != 0 || err != want {
		t.Errorf("errors: Choose, %s = %d, %d; want %d", c.name, got, err, want)
	}
	if got, err := drf.Order(c.l, c.uses, c.want, c.total); len(got) != 0 || err != want {
		t.Errorf("errors: Order, %s = %v, %d; want %d", c.name, got, err, want)
	}
}
