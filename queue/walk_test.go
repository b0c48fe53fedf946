package queue_test

import (
	"testing"

	"furlong/api"
	"furlong/queue"
)

func upTo(n int) []int {
	var l []int
	for i := range n {
		l = append(l, i)
	}
	return l
}

func TestLeavesRise(t *testing.T) {
	for _, c := range []struct {
		l    []api.Queue
		want []int
	}{
		{chain(1), []int{0}},
		{chain(2), []int{1}},
		{chain(64), []int{63}},
		{tree(), []int{1, 6, 7, 9}},
		{flat(4), []int{2, 4, 6}},
	} {
		got, err := queue.Leaves(c.l)
		equal(t, "P5.2: Leaves", got, err, c.want, api.OK)
	}
}

type walk struct {
	name                  string
	l                     []api.Queue
	id                    int
	children, path, below []int
}

func walks() []walk {
	down := upTo(64)
	up := upTo(64)
	for i := range up {
		up[i] = 63 - i
	}
	return []walk{
		{"the root alone", chain(1), 0, nil, []int{0}, []int{0}},
		{"the root", tree(), 0, []int{1, 2, 7}, []int{0}, []int{0, 1, 2, 5, 6, 7, 9}},
		{"a leaf below the root", tree(), 1, nil, []int{1, 0}, []int{1}},
		{"a queue whose subtree isn't in one piece", tree(), 2, []int{5, 9}, []int{2, 0}, []int{2, 5, 6, 9}},
		{"a queue with one child", tree(), 5, []int{6}, []int{5, 2, 0}, []int{5, 6}},
		{"a deep leaf", tree(), 6, nil, []int{6, 5, 2, 0}, []int{6}},
		{"a leaf behind all", tree(), 9, nil, []int{9, 2, 0}, []int{9}},
		{"the first of 64 in a row", chain(64), 0, []int{1}, []int{0}, down},
		{"the last of 64 in a row", chain(64), 63, nil, up, []int{63}},
		{"the middle of 64 in a row", chain(64), 32, []int{33}, up[31:], down[32:]},
	}
}

func TestWalks(t *testing.T) {
	for _, c := range walks() {
		got, err := queue.Children(c.l, c.id)
		equal(t, "P5.2: Children of "+c.name, got, err, c.children, api.OK)
		got, err = queue.Path(c.l, c.id)
		equal(t, "P5.2: Path of "+c.name, got, err, c.path, api.OK)
		got, err = queue.Below(c.l, c.id)
		equal(t, "P5.2: Below of "+c.name, got, err, c.below, api.OK)
	}
}

func TestWalksFromNoQueue(t *testing.T) {
	for _, id := range []int{-2, -1, 3, 4, 8, 10} {
		got, err := queue.Children(tree(), id)
		equal(t, "errors: Children", got, err, nil, api.ErrNone)
		got, err = queue.Path(tree(), id)
		equal(t, "errors: Path", got, err, nil, api.ErrNone)
		got, err = queue.Below(tree(), id)
		equal(t, "errors: Below", got, err, nil, api.ErrNone)
	}
}

func TestChapterExampleOfWalks(t *testing.T) {
	l := []api.Queue{quota(q(0, -1), v(6, 16)), q(1, 0), q(2, 0), q(5, 2)}
	got, err := queue.Leaves(l)
	equal(t, "example 1: Leaves", got, err, []int{1, 5}, api.OK)
	got, err = queue.Path(l, 5)
	equal(t, "example 1: Path(5)", got, err, []int{5, 2, 0}, api.OK)
	got, err = queue.Below(l, 2)
	equal(t, "example 1: Below(2)", got, err, []int{2, 5}, api.OK)
	sums, err := queue.Sums(l, []api.Use{{Queue: 1, Vec: v(1, 1)}, {Queue: 5, Vec: v(2, 0)}})
	equal(t, "example 1: Sums", sums, err, []api.Vec{v(3, 1), v(1, 1), v(2, 0), v(2, 0)}, api.OK)
}
