package queue_test

import (
	"math"
	"testing"

	"furlong/api"
	"furlong/queue"
)

func TestAddAtItsPlace(t *testing.T) {
	for _, c := range []struct {
		name    string
		l       []api.Queue
		p       api.Queue
		want    []api.Queue
		wantErr api.Errno
	}{
		{"to the root alone", []api.Queue{q(0, -1)}, q(4, 0), []api.Queue{q(0, -1), q(4, 0)}, api.OK},
		{"behind all", []api.Queue{q(0, -1), q(4, 0)}, q(5, 4), []api.Queue{q(0, -1), q(4, 0), q(5, 4)}, api.OK},
		{"in between", []api.Queue{q(0, -1), q(4, 0), q(6, 4)}, q(5, 4), []api.Queue{q(0, -1), q(4, 0), q(5, 4), q(6, 4)}, api.OK},
		{"right behind the root", []api.Queue{q(0, -1), q(4, 0)}, q(1, 0), []api.Queue{q(0, -1), q(1, 0), q(4, 0)}, api.OK},
		{"with all that it has", []api.Queue{least(q(0, -1), v(5, 5)), least(q(4, 0), v(2, 2))}, quota(least(weight(q(2, 0), 9), v(3, 3)), v(3, 4)),
			[]api.Queue{least(q(0, -1), v(5, 5)), quota(least(weight(q(2, 0), 9), v(3, 3)), v(3, 4)), least(q(4, 0), v(2, 2))}, api.OK},
		{"the greatest Id", []api.Queue{q(0, -1)}, q(math.MaxInt, 0), []api.Queue{q(0, -1), q(math.MaxInt, 0)}, api.OK},
		{"a 64th", flat(63), q(999, 0), append(flat(63), q(999, 0)), api.OK},
		{"a 64th, below the last of a row", chain(63), q(63, 62), chain(64), api.OK},
	} {
		got, err := queue.Add(c.l, c.p)
		equal(t, "P5.1: Add "+c.name, got, err, c.want, c.wantErr)
	}
}

func TestAddRefuses(t *testing.T) {
	small := quota(q(3, 0), v(1, 1))
	guarded := []api.Queue{least(q(0, -1), v(3, 3)), least(q(1, 0), v(2, 2))}
	for _, c := range []struct {
		name string
		l    []api.Queue
		p    api.Queue
		err  api.Errno
	}{
		{"an Id that is there", tree(), q(5, 2), api.ErrExists},
		{"the root", tree(), q(0, -1), api.ErrExists},
		{"an Id that is there, no such Parent", tree(), q(5, 4), api.ErrExists},
		{"an Id that is there, a weight 0", tree(), weight(q(5, 2), 0), api.ErrExists},
		{"an Id that is there among 64", flat(64), q(2, 0), api.ErrExists},
		{"a 65th", flat(64), q(3, 0), api.ErrFull},
		{"a 65th, no such Parent", flat(64), q(3, 1), api.ErrFull},
		{"a 65th, of an Id below 0", flat(64), q(-1, 0), api.ErrFull},
		{"a 65th, of weight 0", flat(64), weight(q(3, 0), 0), api.ErrFull},
		{"no such Parent", tree(), q(3, 4), api.ErrNone},
		{"a second root", tree(), q(3, -1), api.ErrNone},
		{"its own Parent", tree(), q(3, 3), api.ErrNone},
		{"no such Parent, an Id below 0", tree(), q(-3, 4), api.ErrNone},
		{"no such Parent, a weight 0", tree(), weight(q(3, 4), 0), api.ErrNone},
		{"a Parent behind it", tree(), q(3, 5), api.ErrForm},
		{"a Parent behind it, a weight 0", tree(), weight(q(3, 5), 0), api.ErrForm},
		{"an Id below 0", tree(), q(-3, 0), api.ErrForm},
		{"the least Id", tree(), q(math.MinInt, 0), api.ErrForm},
		{"a weight 0", tree(), weight(q(3, 0), 0), api.ErrArg},
		{"a weight above MaxWeight", tree(), weight(q(3, 0), api.MaxWeight+1), api.ErrArg},
		{"a Quota that is no amount", tree(), quota(q(3, 0), v(0, api.MaxRes+1)), api.ErrArg},
		{"a Min that is no amount", tree(), least(q(3, 0), v(-1, 0)), api.ErrArg},
		{"a weight 0, a Min above its Quota", tree(), least(weight(small, 0), v(2, 2)), api.ErrArg},
		{"a Min above its Quota", guarded, least(quota(q(3, 1), v(1, 1)), v(2, 0)), api.ErrQuota},
		{"a Min that is more than is left", guarded, least(q(3, 0), v(1, 2)), api.ErrQuota},
	} {
		got, err := queue.Add(c.l, c.p)
		equal(t, "errors: Add "+c.name, got, err, nil, c.err)
	}
	got, err := queue.Add(guarded, least(q(3, 0), v(1, 1)))
	equal(t, "P5.1: Add a Min of just what is left", got, err, append(guarded[:2:2], least(q(3, 0), v(1, 1))), api.OK)
}

func TestSetInItsPlace(t *testing.T) {
	all := tree()
	for at, old := range all {
		p := quota(weight(old, int64(at)+2), v(int64(at), 3))
		got, err := queue.Set(all, p)
		equal(t, "P5.1: Set", got, err, with(all, at, p), api.OK)
		got, err = queue.Set(all, old)
		equal(t, "P5.1: Set to what it was", got, err, all, api.OK)
	}
	got, err := queue.Set(chain(1), weight(q(0, -1), 5))
	equal(t, "P5.1: Set of the root alone", got, err, []api.Queue{weight(q(0, -1), 5)}, api.OK)
	got, err = queue.Set(chain(64), weight(q(63, 62), 5))
	equal(t, "P5.1: Set of the last of 64", got, err, with(chain(64), 63, weight(q(63, 62), 5)), api.OK)
}

func TestSetRefuses(t *testing.T) {
	guarded := []api.Queue{least(q(0, -1), v(3, 3)), least(q(1, 0), v(2, 2)), least(q(2, 0), v(1, 1))}
	for _, c := range []struct {
		name string
		l    []api.Queue
		p    api.Queue
		err  api.Errno
	}{
		{"no such Id", tree(), q(3, 0), api.ErrNone},
		{"no such Id, below 0", tree(), q(-1, -1), api.ErrNone},
		{"no such Id, no such Parent", tree(), q(3, 4), api.ErrNone},
		{"no such Id, a weight 0", tree(), weight(q(3, 0), 0), api.ErrNone},
		{"another Parent", tree(), q(5, 0), api.ErrForm},
		{"another Parent that isn't there", tree(), q(5, 4), api.ErrForm},
		{"another Parent of the root", tree(), q(0, 0), api.ErrForm},
		{"the root's Parent", tree(), q(5, -1), api.ErrForm},
		{"another Parent, a weight 0", tree(), weight(q(5, 0), 0), api.ErrForm},
		{"another Parent, a Min above its Quota", tree(), quota(least(q(5, 0), v(1, 1)), v(0, 0)), api.ErrForm},
		{"a weight 0", tree(), weight(q(5, 2), 0), api.ErrArg},
		{"a weight above MaxWeight", tree(), weight(q(5, 2), api.MaxWeight+1), api.ErrArg},
		{"a Quota that is no amount", tree(), quota(q(0, -1), v(-1, 0)), api.ErrArg},
		{"a Min that is no amount", tree(), least(q(5, 2), v(0, api.MaxRes+1)), api.ErrArg},
		{"a weight 0, a Min above its Quota", tree(), weight(quota(least(q(5, 2), v(1, 1)), v(0, 0)), 0), api.ErrArg},
		{"a Quota below its Min", guarded, quota(guarded[1], v(2, 1)), api.ErrQuota},
		{"a Min above what is left", guarded, least(q(2, 0), v(2, 1)), api.ErrQuota},
		{"a Min below those of its children", guarded, least(q(0, -1), v(3, 2)), api.ErrQuota},
	} {
		got, err := queue.Set(c.l, c.p)
		equal(t, "errors: Set "+c.name, got, err, nil, c.err)
	}
	got, err := queue.Set(guarded, least(q(2, 0), v(0, 1)))
	equal(t, "P5.1: Set a lesser Min", got, err, with(guarded, 2, least(q(2, 0), v(0, 1))), api.OK)
}

func TestDropOfALeaf(t *testing.T) {
	all := tree()
	for _, id := range []int{1, 6, 7, 9} {
		var want []api.Queue
		for _, p := range all {
			if p.Id != id {
				want = append(want, p)
			}
		}
		got, err := queue.Drop(all, id)
		equal(t, "P5.1: Drop", got, err, want, api.OK)
	}
	got, err := queue.Drop(chain(64), 63)
	equal(t, "P5.1: Drop the last of 64", got, err, chain(63), api.OK)
	got, err = queue.Drop(chain(2), 1)
	equal(t, "P5.1: Drop, and the root is alone", got, err, chain(1), api.OK)
}

func TestDropRefuses(t *testing.T) {
	for _, c := range []struct {
		name string
		l    []api.Queue
		id   int
		err  api.Errno
	}{
		{"no such Id", tree(), 3, api.ErrNone},
		{"no such Id, below 0", tree(), -1, api.ErrNone},
		{"the root alone", chain(1), 0, api.ErrForm},
		{"the root, with children", tree(), 0, api.ErrForm},
		{"a queue with children", tree(), 2, api.ErrUse},
		{"a queue with one child", tree(), 5, api.ErrUse},
	} {
		got, err := queue.Drop(c.l, c.id)
		equal(t, "errors: Drop "+c.name, got, err, nil, c.err)
	}
}

func TestChapterExamplesOfChanges(t *testing.T) {
	l := []api.Queue{quota(q(0, -1), v(6, 16)), q(1, 0), q(2, 0), q(5, 2)}
	got, err := queue.Add(l, q(3, 9))
	equal(t, "example 2: Add(3 below 9)", got, err, nil, api.ErrNone)
	got, err = queue.Add(l, q(3, 5))
	equal(t, "example 2: Add(3 below 5)", got, err, nil, api.ErrForm)
	got, err = queue.Drop(l, 2)
	equal(t, "example 2: Drop(2)", got, err, nil, api.ErrUse)
	got, err = queue.Drop(l, 0)
	equal(t, "example 2: Drop(0)", got, err, nil, api.ErrForm)
}
