package queue_test

import (
	"slices"
	"testing"

	"furlong/api"
)

func v(cpu, mem int64) api.Vec { return api.Vec{CPU: cpu, Mem: mem} }

// q is a queue with much room and no guarantee.
func q(id, parent int) api.Queue {
	return api.Queue{Id: id, Parent: parent, Weight: 1, Quota: v(api.MaxRes, api.MaxRes)}
}

func quota(p api.Queue, most api.Vec) api.Queue {
	p.Quota = most
	return p
}

func least(p api.Queue, min api.Vec) api.Queue {
	p.Min = min
	return p
}

func weight(p api.Queue, w int64) api.Queue {
	p.Weight = w
	return p
}

// tree is 0 over 1, 2 and 7; 2 over 5 and 9; 5 over 6.
func tree() []api.Queue {
	return []api.Queue{q(0, -1), q(1, 0), q(2, 0), q(5, 2), q(6, 5), q(7, 0), q(9, 2)}
}

// flat is the root with so many queues below it that there are n in all, Ids 0, 2, 4 and on.
func flat(n int) []api.Queue {
	l := []api.Queue{q(0, -1)}
	for i := 1; i < n; i++ {
		l = append(l, q(2*i, 0))
	}
	return l
}

// chain is n queues, each below the one ahead.
func chain(n int) []api.Queue {
	var l []api.Queue
	for i := range n {
		l = append(l, q(i, i-1))
	}
	return l
}

// with is a copy of l, where the queue at a place is another one.
func with(l []api.Queue, at int, p api.Queue) []api.Queue {
	l = slices.Clone(l)
	l[at] = p
	return l
}

// bad is a list and the error that every call which is handed it answers.
type bad struct {
	name string
	l    []api.Queue
	err  api.Errno
}

func badLists() []bad {
	long := chain(65)
	noAmount := v(-1, 0)
	return []bad{
		{"65 queues", long, api.ErrLong},
		{"65 queues, none of the form", make([]api.Queue, 65), api.ErrLong},
		{"65 queues, a weight 0", with(long, 3, weight(long[3], 0)), api.ErrLong},
		{"65 queues, a Min above its Quota", with(long, 3, quota(least(long[3], v(2, 2)), v(1, 1))), api.ErrLong},
		{"no list", nil, api.ErrForm},
		{"no queue", []api.Queue{}, api.ErrForm},
		{"the first Id 1", []api.Queue{q(1, -1)}, api.ErrForm},
		{"the first Id -1", []api.Queue{q(-1, -1), q(0, -1)}, api.ErrForm},
		{"the first Parent 0", []api.Queue{q(0, 0)}, api.ErrForm},
		{"the first Parent -2", []api.Queue{q(0, -2)}, api.ErrForm},
		{"two roots", []api.Queue{q(0, -1), q(1, -1)}, api.ErrForm},
		{"an Id twice", []api.Queue{q(0, -1), q(1, 0), q(1, 0)}, api.ErrForm},
		{"the root's Id twice", []api.Queue{q(0, -1), q(0, 0)}, api.ErrForm},
		{"an Id that falls", []api.Queue{q(0, -1), q(2, 0), q(1, 0)}, api.ErrForm},
		{"an Id below 0", []api.Queue{q(0, -1), q(-3, 0)}, api.ErrForm},
		{"a Parent behind", []api.Queue{q(0, -1), q(1, 2), q(2, 0)}, api.ErrForm},
		{"its own Parent", []api.Queue{q(0, -1), q(1, 1)}, api.ErrForm},
		{"a ring", []api.Queue{q(0, -1), q(1, 2), q(2, 1)}, api.ErrForm},
		{"no such Parent", []api.Queue{q(0, -1), q(1, 0), q(4, 3)}, api.ErrForm},
		{"no such Parent behind a weight 0", []api.Queue{weight(q(0, -1), 0), q(4, 3)}, api.ErrForm},
		{"no such Parent behind a Min above its Quota", []api.Queue{quota(least(q(0, -1), v(2, 2)), v(1, 1)), q(4, 3)}, api.ErrForm},
		{"weight 0", []api.Queue{q(0, -1), weight(q(1, 0), 0)}, api.ErrArg},
		{"weight -1", []api.Queue{weight(q(0, -1), -1)}, api.ErrArg},
		{"a weight above MaxWeight", []api.Queue{q(0, -1), weight(q(1, 0), api.MaxWeight+1)}, api.ErrArg},
		{"a Quota below 0", []api.Queue{quota(q(0, -1), v(0, -1))}, api.ErrArg},
		{"a Quota above MaxRes", []api.Queue{q(0, -1), quota(q(1, 0), v(api.MaxRes+1, 0))}, api.ErrArg},
		{"a Min below 0", []api.Queue{q(0, -1), least(q(1, 0), noAmount)}, api.ErrArg},
		{"a Min above MaxRes", []api.Queue{least(q(0, -1), v(0, api.MaxRes+1))}, api.ErrArg},
		{"a weight 0 behind a Min above its Quota", []api.Queue{quota(least(q(0, -1), v(2, 2)), v(1, 1)), weight(q(1, 0), 0)}, api.ErrArg},
		{"a Min below 0 behind Mins above their parent's", []api.Queue{q(0, -1), least(q(1, 0), v(1, 1)), least(q(2, 0), noAmount)}, api.ErrArg},
		{"a Min above its Quota", []api.Queue{least(quota(q(0, -1), v(4, 4)), v(5, 4))}, api.ErrQuota},
		{"a Min above its Quota in memory alone", []api.Queue{least(quota(q(0, -1), v(4, 4)), v(4, 5))}, api.ErrQuota},
		{"a child's Min above its parent's", []api.Queue{q(0, -1), least(q(1, 0), v(0, 1))}, api.ErrQuota},
		{"children's Mins above their parent's", []api.Queue{least(q(0, -1), v(3, 9)), least(q(1, 0), v(2, 1)), least(q(2, 0), v(2, 1))}, api.ErrQuota},
		{"Mins above their parent's, deep", []api.Queue{least(q(0, -1), v(9, 9)), least(q(1, 0), v(3, 3)), least(q(2, 1), v(2, 2)), least(q(3, 1), v(1, 2))}, api.ErrQuota},
		{"children's Mins above MaxRes", []api.Queue{least(q(0, -1), v(api.MaxRes, 0)), least(q(1, 0), v(api.MaxRes, 0)), least(q(2, 0), v(1, 0))}, api.ErrQuota},
	}
}

func equal[T comparable](t *testing.T, what string, got []T, err api.Errno, want []T, wantErr api.Errno) {
	t.Helper()
	if !slices.Equal(got, want) || err != wantErr {
		t.Errorf("%s = %v, %d; want %v, %d", what, got, err, want, wantErr)
	}
}
