package victim_test

import (
	"slices"
	"testing"

	"furlong/api"
	"furlong/victim"
)

func v(cpu, mem int64) api.Vec { return api.Vec{CPU: cpu, Mem: mem} }

// q is a queue with much room, of the weight 1.
func q(id, parent int, min api.Vec) api.Queue {
	return api.Queue{Id: id, Parent: parent, Weight: 1, Quota: v(api.MaxRes, api.MaxRes), Min: min}
}

func use(id int, cpu, mem int64) api.Use { return api.Use{Queue: id, Vec: v(cpu, mem)} }

// lease is of the cores 0 and on.
func lease(task, queue, cores int, mem int64) api.Lease {
	return api.Lease{Task: task, Queue: queue, Cores: upTo(cores), Mem: mem}
}

func stop(l api.Lease) api.Lease {
	l.Stop = true
	return l
}

func upTo(n int) []int {
	var l []int
	for i := range n {
		l = append(l, i)
	}
	return l
}

// flat is the root, whose Min is great, with a child for each Min, Ids 1 and on.
func flat(mins ...api.Vec) []api.Queue {
	l := []api.Queue{q(0, -1, v(api.MaxRes, api.MaxRes))}
	for i, min := range mins {
		l = append(l, q(i+1, 0, min))
	}
	return l
}

// tree is 0 over 1, 2 and 7; 2 over 5 and 9. The leaves 1, 5, 7 and 9 have the Mins (1, 1), (2, 0), nothing, (0, 3).
func tree() []api.Queue {
	return []api.Queue{q(0, -1, v(9, 9)), q(1, 0, v(1, 1)), q(2, 0, v(4, 4)), q(5, 2, v(2, 0)), q(7, 0, v(0, 0)), q(9, 2, v(0, 3))}
}

// weigh is a copy of l, where the queues behind the root have these weights.
func weigh(l []api.Queue, weights ...int64) []api.Queue {
	l = slices.Clone(l)
	for i, w := range weights {
		l[i+1].Weight = w
	}
	return l
}

func checkUses(t *testing.T, what string, leases []api.Lease, want []api.Use, err api.Errno) {
	t.Helper()
	for range 2 { // P2: the second time as the first time
		if got, e := victim.Uses(leases); !slices.Equal(got, want) || e != err {
			t.Errorf("P8.1: Uses, %s = %v, %d; want %v, %d", what, got, e, want, err)
		}
	}
}

func checkStarved(t *testing.T, what string, l []api.Queue, leases []api.Lease, need []api.Use, want []int, err api.Errno) {
	t.Helper()
	for range 2 {
		if got, e := victim.Starved(l, leases, need); !slices.Equal(got, want) || e != err {
			t.Errorf("P8.2: Starved, %s = %v, %d; want %v, %d", what, got, e, want, err)
		}
	}
}

func checkChoose(t *testing.T, what string, l []api.Queue, leases []api.Lease, total api.Vec, want int, err api.Errno) {
	t.Helper()
	for range 2 {
		if got, e := victim.Choose(l, leases, total); got != want || e != err {
			t.Errorf("P8.3: Choose, %s = %d, %d; want %d, %d", what, got, e, want, err)
		}
	}
}
