package queue_test

import (
	"math"
	"slices"
	"testing"

	"furlong/api"
	"furlong/queue"
)

func use(id int, cpu, mem int64) api.Use { return api.Use{Queue: id, Vec: v(cpu, mem)} }

func TestSumsOfTheLeavesBelow(t *testing.T) {
	none := make([]api.Vec, 7)
	for _, c := range []struct {
		name string
		l    []api.Queue
		uses []api.Use
		want []api.Vec
	}{
		{"no use", tree(), nil, none},
		{"a use of nothing", tree(), []api.Use{use(6, 0, 0)}, none},
		{"one use", tree(), []api.Use{use(6, 3, 4)}, []api.Vec{v(3, 4), {}, v(3, 4), v(3, 4), v(3, 4), {}, {}}},
		{"all leaves", tree(), []api.Use{use(1, 1, 0), use(6, 2, 0), use(7, 4, 1), use(9, 8, 2)}, []api.Vec{v(15, 3), v(1, 0), v(10, 2), v(2, 0), v(2, 0), v(4, 1), v(8, 2)}},
		{"in any order", tree(), []api.Use{use(9, 8, 2), use(1, 1, 0), use(7, 4, 1), use(6, 2, 0)}, []api.Vec{v(15, 3), v(1, 0), v(10, 2), v(2, 0), v(2, 0), v(4, 1), v(8, 2)}},
		{"a leaf more than once", tree(), []api.Use{use(9, 1, 1), use(6, 2, 3), use(9, 1, 1), use(9, 5, 0)}, []api.Vec{v(9, 5), {}, v(9, 5), v(2, 3), v(2, 3), {}, v(7, 2)}},
		{"the root alone", chain(1), []api.Use{use(0, 2, 1), use(0, 3, 1)}, []api.Vec{v(5, 2)}},
		{"64 in a row", chain(64), []api.Use{use(63, 1, 2), use(63, 1, 0)}, slices.Repeat([]api.Vec{v(2, 2)}, 64)},
		{"MaxRes at once", chain(2), []api.Use{use(1, api.MaxRes, api.MaxRes)}, []api.Vec{v(api.MaxRes, api.MaxRes), v(api.MaxRes, api.MaxRes)}},
		{"MaxRes together", flat(3), []api.Use{use(2, api.MaxRes-1, 0), use(4, 1, api.MaxRes)}, []api.Vec{v(api.MaxRes, api.MaxRes), v(api.MaxRes-1, 0), v(1, api.MaxRes)}},
		{"more than a Quota", []api.Queue{quota(q(0, -1), v(1, 1))}, []api.Use{use(0, 5, 5)}, []api.Vec{v(5, 5)}},
	} {
		got, err := queue.Sums(c.l, c.uses)
		equal(t, "P5.3: Sums of "+c.name, got, err, c.want, api.OK)
	}
}

type badUses struct {
	name string
	uses []api.Use
	err  api.Errno
}

// Uses that are wrong in the list tree.
func wrongUses() []badUses {
	over := use(1, api.MaxRes, 0)
	return []badUses{
		{"no such queue", []api.Use{use(3, 1, 1)}, api.ErrNone},
		{"no such queue, below 0", []api.Use{use(-1, 1, 1)}, api.ErrNone},
		{"no such queue and no amount", []api.Use{use(3, -1, 1)}, api.ErrNone},
		{"no such queue behind a right one", []api.Use{use(1, 1, 1), use(3, 1, 1)}, api.ErrNone},
		{"no leaf", []api.Use{use(2, 1, 1)}, api.ErrLeaf},
		{"no leaf, the root", []api.Use{use(0, 0, 0)}, api.ErrLeaf},
		{"no leaf and no amount", []api.Use{use(5, -1, 1)}, api.ErrLeaf},
		{"an amount below 0", []api.Use{use(1, 0, -1)}, api.ErrArg},
		{"an amount above MaxRes", []api.Use{use(1, api.MaxRes+1, 0)}, api.ErrArg},
		{"the least number", []api.Use{use(1, math.MinInt64, 0)}, api.ErrArg},
		{"the greatest number", []api.Use{use(1, 0, math.MaxInt64)}, api.ErrArg},
		{"no amount, then no such queue", []api.Use{use(1, -1, 0), use(3, 1, 1)}, api.ErrArg},
		{"no amount, then no leaf", []api.Use{use(1, -1, 0), use(2, 1, 1)}, api.ErrArg},
		{"no leaf, then no such queue", []api.Use{use(2, 1, 1), use(3, 1, 1)}, api.ErrLeaf},
		{"no leaf, then no amount", []api.Use{use(2, 1, 1), use(1, -1, 1)}, api.ErrLeaf},
		{"no such queue, then no leaf", []api.Use{use(3, 1, 1), use(2, 1, 1)}, api.ErrNone},
		{"a leaf's sum above MaxRes", []api.Use{over, use(1, 1, 0)}, api.ErrOver},
		{"a leaf's sum above MaxRes in memory", []api.Use{use(6, 0, 1), use(6, 0, api.MaxRes)}, api.ErrOver},
		{"the root's sum alone above MaxRes", []api.Use{over, use(7, 1, 0)}, api.ErrOver},
		{"a sum above MaxRes, then no such queue", []api.Use{over, over, use(3, 1, 1)}, api.ErrNone},
		{"a sum above MaxRes, then no leaf", []api.Use{over, over, use(2, 1, 1)}, api.ErrLeaf},
		{"a sum above MaxRes, then no amount", []api.Use{over, over, use(1, 1, -1)}, api.ErrArg},
	}
}

func TestSumsRefuses(t *testing.T) {
	for _, c := range wrongUses() {
		got, err := queue.Sums(tree(), c.uses)
		equal(t, "errors: Sums of "+c.name, got, err, nil, c.err)
	}
}

// tight is 0 over 1 and 2, and 2 over 3 and 4, each with a quota of its own.
func tight() []api.Queue {
	return []api.Queue{quota(q(0, -1), v(10, 20)), quota(q(1, 0), v(9, 9)), quota(q(2, 0), v(6, 18)), quota(q(3, 2), v(4, 19)), quota(q(4, 2), v(20, 20))}
}

func TestRoomIsJustEnough(t *testing.T) {
	for _, c := range []struct {
		name string
		uses []api.Use
		leaf int
		more api.Vec
		err  api.Errno
	}{
		{"nothing more", nil, 3, v(0, 0), api.OK},
		{"all of a leaf's quota", nil, 3, v(4, 18), api.OK},
		{"one above a leaf's quota", nil, 3, v(5, 0), api.ErrQuota},
		{"one above the middle one's quota", nil, 4, v(7, 0), api.ErrQuota},
		{"all of the middle one's quota", nil, 4, v(6, 18), api.OK},
		{"one above the middle one's memory", nil, 3, v(0, 19), api.ErrQuota},
		{"what a leaf has left", []api.Use{use(3, 1, 1), use(3, 2, 0)}, 3, v(1, 17), api.OK},
		{"one above what a leaf has left", []api.Use{use(3, 1, 1), use(3, 2, 0)}, 3, v(2, 0), api.ErrQuota},
		{"what the middle one has left", []api.Use{use(3, 4, 1)}, 4, v(2, 17), api.OK},
		{"one above what the middle one has left", []api.Use{use(3, 4, 1)}, 4, v(3, 0), api.ErrQuota},
		{"what the root has left", []api.Use{use(1, 7, 9), use(4, 1, 0)}, 3, v(2, 11), api.OK},
		{"one above what the root has left", []api.Use{use(1, 7, 9), use(4, 1, 0)}, 3, v(3, 0), api.ErrQuota},
		{"one above what the root has left of memory", []api.Use{use(1, 7, 9)}, 3, v(0, 12), api.ErrQuota},
		{"a queue beside the path that is over its quota", []api.Use{use(3, 5, 0)}, 1, v(5, 9), api.OK},
		{"a queue of the path that is over its quota", []api.Use{use(3, 5, 0)}, 3, v(0, 0), api.ErrQuota},
		{"a queue above that is over its quota", []api.Use{use(3, 7, 0)}, 4, v(0, 0), api.ErrQuota},
	} {
		if err := queue.Room(tight(), c.uses, c.leaf, c.more); err != c.err {
			t.Errorf("P5.3: Room for %s = %d; want %d", c.name, err, c.err)
		}
	}
}

func TestRoomAtMaxRes(t *testing.T) {
	for _, c := range []struct {
		uses []api.Use
		more api.Vec
		err  api.Errno
	}{
		{nil, v(api.MaxRes, api.MaxRes), api.OK},
		{[]api.Use{use(1, api.MaxRes, 0)}, v(0, api.MaxRes), api.OK},
		{[]api.Use{use(1, api.MaxRes, 0)}, v(1, 0), api.ErrQuota},
		{[]api.Use{use(1, 0, 1)}, v(0, api.MaxRes), api.ErrQuota},
		{[]api.Use{use(1, api.MaxRes, api.MaxRes)}, v(api.MaxRes, api.MaxRes), api.ErrQuota},
	} {
		if err := queue.Room(chain(2), c.uses, 1, c.more); err != c.err {
			t.Errorf("P5.3: Room(%v, %v) = %d; want %d", c.uses, c.more, err, c.err)
		}
	}
	if err := queue.Room(chain(1), []api.Use{use(0, 1, 1)}, 0, v(api.MaxRes-1, 0)); err != api.OK {
		t.Errorf("P5.3: Room of the root alone = %d", err)
	}
}

func TestRoomRefuses(t *testing.T) {
	full := with(tree(), 1, quota(q(1, 0), v(0, 0)))
	for _, c := range wrongUses() {
		for _, leaf := range []int{1, 2, 3} {
			if err := queue.Room(full, c.uses, leaf, v(-1, 0)); err != c.err {
				t.Errorf("errors: Room with %s = %d; want %d", c.name, err, c.err)
			}
		}
	}
	for _, c := range []struct {
		leaf int
		more api.Vec
		err  api.Errno
	}{
		{3, v(1, 1), api.ErrNone},
		{-1, v(1, 1), api.ErrNone},
		{3, v(-1, 1), api.ErrNone},
		{2, v(1, 1), api.ErrLeaf},
		{0, v(1, 1), api.ErrLeaf},
		{2, v(-1, 1), api.ErrLeaf},
		{1, v(-1, 0), api.ErrArg},
		{1, v(1, -1), api.ErrArg},
		{1, v(0, api.MaxRes+1), api.ErrArg},
		{1, v(math.MinInt64, math.MaxInt64), api.ErrArg},
		{1, v(1, 0), api.ErrQuota},
		{1, v(0, 0), api.OK},
	} {
		if err := queue.Room(full, nil, c.leaf, c.more); err != c.err {
			t.Errorf("errors: Room of %d for %v = %d; want %d", c.leaf, c.more, err, c.err)
		}
	}
}
