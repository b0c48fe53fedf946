package drf_test

import (
	"math"
	"testing"

	"furlong/api"
)

var right = call{"all right", tree(), []api.Use{use(1, 1, 1)}, []int{1, 6}, v(6, 16)}

func TestWrongTotals(t *testing.T) {
	for _, total := range []api.Vec{v(-1, 0), v(0, -1), v(api.MaxRes+1, 0), v(0, api.MaxRes+1), v(math.MinInt64, math.MaxInt64)} {
		for _, want := range [][]int{{1, 6}, {6, 1}, nil, {77}, {2}} {
			call{"a total that is no amount", tree(), nil, want, total}.fails(t, api.ErrArg)
		}
	}
	call{"a total of MaxRes", tree(), nil, []int{1}, v(api.MaxRes, api.MaxRes)}.tells(t, 1)
}

func TestWrongWants(t *testing.T) {
	for _, c := range []struct {
		name string
		want []int
		err  api.Errno
	}{
		{"falls", []int{6, 1}, api.ErrForm},
		{"falls behind", []int{1, 7, 6}, api.ErrForm},
		{"a leaf twice", []int{1, 1}, api.ErrForm},
		{"a leaf twice, behind", []int{1, 6, 6}, api.ErrForm},
		{"falls, and is no queue", []int{77, 1}, api.ErrForm},
		{"falls behind what is no queue", []int{-5, 6, 1}, api.ErrForm},
		{"falls, and is no leaf", []int{5, 2}, api.ErrForm},
		{"no leaf twice", []int{2, 2}, api.ErrForm},
		{"falls from the greatest number to the least", []int{math.MaxInt, math.MinInt}, api.ErrForm},
		{"none", nil, api.ErrNone},
		{"an empty list", []int{}, api.ErrNone},
		{"no queue", []int{3}, api.ErrNone},
		{"no queue ahead of a leaf", []int{-1, 1}, api.ErrNone},
		{"no queue behind a leaf", []int{1, 77}, api.ErrNone},
		{"no queues at the ends of numbers", []int{math.MinInt, math.MaxInt}, api.ErrNone},
		{"no leaf, then no queue", []int{2, 3}, api.ErrNone},
		{"no queue, then no leaf", []int{3, 5}, api.ErrNone},
		{"the root, then no queue", []int{0, 1, 77}, api.ErrNone},
		{"no leaf", []int{2}, api.ErrLeaf},
		{"no leaf behind a leaf", []int{1, 5}, api.ErrLeaf},
		{"no leaf ahead of a leaf", []int{5, 9}, api.ErrLeaf},
		{"the root", []int{0}, api.ErrLeaf},
		{"a leaf and the queue above it", []int{5, 6}, api.ErrLeaf},
	} {
		call{"want: " + c.name, tree(), []api.Use{use(1, 1, 1)}, c.want, v(6, 16)}.fails(t, c.err)
	}
	call{"want: more than there can be queues", chain(64), nil, upTo(1000), v(6, 16)}.fails(t, api.ErrNone)
}

// What queue.Sums refuses comes first, whatever else is wrong.
func TestWrongListsAndUses(t *testing.T) {
	over := use(1, api.MaxRes, 0)
	mean := tree()
	mean[3].Min = v(1, 1)
	for _, c := range []struct {
		name string
		l    []api.Queue
		uses []api.Use
		err  api.Errno
	}{
		{"65 queues", chain(65), nil, api.ErrLong},
		{"65 queues and a wrong use", chain(65), []api.Use{use(77, 1, 1)}, api.ErrLong},
		{"no list", nil, nil, api.ErrForm},
		{"no root", []api.Queue{q(1, -1, 1)}, nil, api.ErrForm},
		{"no such Parent", []api.Queue{q(0, -1, 1), q(2, 1, 1)}, nil, api.ErrForm},
		{"a weight 0", flat(1, 0), nil, api.ErrArg},
		{"a weight above MaxWeight", flat(1, api.MaxWeight+1), nil, api.ErrArg},
		{"a Min above its parent's", mean, nil, api.ErrQuota},
		{"a use of no queue", tree(), []api.Use{use(77, 1, 1)}, api.ErrNone},
		{"a use of no leaf", tree(), []api.Use{use(2, 1, 1)}, api.ErrLeaf},
		{"a use that is no amount", tree(), []api.Use{use(1, -1, 1)}, api.ErrArg},
		{"uses above MaxRes", tree(), []api.Use{over, over}, api.ErrOver},
		{"uses above MaxRes together", tree(), []api.Use{over, use(9, 1, 0)}, api.ErrOver},
		{"a use of no leaf, then of no queue", tree(), []api.Use{use(2, 1, 1), use(77, 1, 1)}, api.ErrLeaf},
	} {
		for _, want := range [][]int{{1}, {6, 1}, nil, {77}, {2}} {
			call{c.name, c.l, c.uses, want, v(6, 16)}.fails(t, c.err)
			call{c.name + ", and a wrong total", c.l, c.uses, want, v(-1, 0)}.fails(t, c.err)
		}
	}
	right.tells(t, 6, 1)
}
