package queue_test

import (
	"math"
	"testing"

	"furlong/api"
	"furlong/queue"
)

func TestCheckOfTrees(t *testing.T) {
	for _, c := range []struct {
		name string
		l    []api.Queue
	}{
		{"the root alone", []api.Queue{q(0, -1)}},
		{"a tree", tree()},
		{"64 queues in a row", chain(64)},
		{"64 queues below the root", flat(64)},
		{"Ids as far as they go", []api.Queue{q(0, -1), q(1, 0), q(math.MaxInt, 1)}},
		{"weights 1 and MaxWeight", []api.Queue{weight(q(0, -1), 1), weight(q(1, 0), api.MaxWeight)}},
		{"amounts of 0", []api.Queue{quota(q(0, -1), v(0, 0)), quota(q(1, 0), v(0, 0))}},
		{"amounts of MaxRes", []api.Queue{least(q(0, -1), v(api.MaxRes, api.MaxRes)), least(q(1, 0), v(api.MaxRes, api.MaxRes))}},
		{"a Min that just fits", []api.Queue{least(quota(q(0, -1), v(4, 7)), v(4, 7))}},
		{"Mins that just fit", []api.Queue{least(q(0, -1), v(4, 3)), least(q(1, 0), v(2, 1)), least(q(2, 0), v(2, 2))}},
		{"Mins that just fit in MaxRes", []api.Queue{least(q(0, -1), v(api.MaxRes, 0)), least(q(1, 0), v(api.MaxRes-1, 0)), least(q(2, 0), v(1, 0))}},
		{"Mins deep, each counted for its own parent alone", []api.Queue{least(q(0, -1), v(3, 3)), least(q(1, 0), v(3, 3)), least(q(2, 1), v(2, 1)), least(q(3, 1), v(1, 2))}},
		{"a Quota above its parent's", []api.Queue{quota(q(0, -1), v(1, 1)), quota(q(1, 0), v(5, 5))}},
	} {
		if err := queue.Check(c.l); err != api.OK {
			t.Errorf("errors: Check of %s = %d", c.name, err)
		}
	}
}

func TestCheckOfNoTrees(t *testing.T) {
	for _, c := range badLists() {
		if err := queue.Check(c.l); err != c.err {
			t.Errorf("errors: Check of %s = %d; want %d", c.name, err, c.err)
		}
	}
}

func TestCheckOfNumbersOutside(t *testing.T) {
	for _, x := range []int64{math.MinInt64, -1, api.MaxRes + 1, math.MaxInt64} {
		for _, one := range []api.Vec{v(x, 0), v(0, x), v(x, x)} {
			for at, l := range [][]api.Queue{{quota(q(0, -1), one)}, {least(q(0, -1), one)}, {q(0, -1), quota(q(3, 0), one)}, {q(0, -1), least(q(3, 0), one)}} {
				if err := queue.Check(l); err != api.ErrArg {
					t.Errorf("errors: Check with the amount %v, list %d = %d; want ErrArg", one, at, err)
				}
			}
		}
	}
	for _, w := range []int64{math.MinInt64, -1, 0, api.MaxWeight + 1, math.MaxInt64} {
		for _, l := range [][]api.Queue{{weight(q(0, -1), w)}, {q(0, -1), weight(q(3, 0), w)}} {
			if err := queue.Check(l); err != api.ErrArg {
				t.Errorf("errors: Check with the weight %d = %d; want ErrArg", w, err)
			}
		}
	}
}

// Each call that is handed a list refuses it as Check does, whatever else is wrong with the call.
func TestEveryCallChecksItsList(t *testing.T) {
	for _, c := range badLists() {
		for _, id := range []int{0, 1, 77} {
			wrong := []api.Use{{Queue: id, Vec: v(-1, 0)}}
			for _, p := range []api.Queue{q(id, 0), weight(q(id, 77), 0)} {
				l, err := queue.Add(c.l, p)
				equal(t, "errors: Add to "+c.name, l, err, nil, c.err)
				l, err = queue.Set(c.l, p)
				equal(t, "errors: Set in "+c.name, l, err, nil, c.err)
			}
			l, err := queue.Drop(c.l, id)
			equal(t, "errors: Drop from "+c.name, l, err, nil, c.err)
			m, err := queue.Leaves(c.l)
			equal(t, "errors: Leaves of "+c.name, m, err, nil, c.err)
			m, err = queue.Children(c.l, id)
			equal(t, "errors: Children of "+c.name, m, err, nil, c.err)
			m, err = queue.Path(c.l, id)
			equal(t, "errors: Path of "+c.name, m, err, nil, c.err)
			m, err = queue.Below(c.l, id)
			equal(t, "errors: Below of "+c.name, m, err, nil, c.err)
			for _, uses := range [][]api.Use{nil, wrong} {
				s, err := queue.Sums(c.l, uses)
				equal(t, "errors: Sums of "+c.name, s, err, nil, c.err)
				if err := queue.Room(c.l, uses, id, v(-1, 0)); err != c.err {
					t.Errorf("errors: Room of %s = %d; want %d", c.name, err, c.err)
				}
			}
		}
	}
}
