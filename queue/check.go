package queue

import (
	"furlong/api"
	"furlong/vec"
)

// read goes over the whole list once for each error, because an error of any queue comes ahead of a later kind of error of all.
func read(l []api.Queue) (tree, api.Errno) {
	if len(l) > api.MaxQueues {
		return tree{}, api.ErrLong
	}
	places, ok := meet(l)
	t := tree{list: l, places: places}
	switch {
	case !ok:
		return tree{}, api.ErrForm
	case !t.inRange():
		return tree{}, api.ErrArg
	case !t.guaranteed():
		return tree{}, api.ErrQuota
	}
	return t, api.OK
}

// meet answers the place of each Id, if the list is of the form. A Parent must have been met already, so no path goes round in a ring.
func meet(l []api.Queue) (map[int]int, bool) {
	if len(l) == 0 || l[0].Id != root || l[0].Parent != aboveRoot {
		return nil, false
	}
	met := map[int]int{root: 0}
	for ahead, q := range l[1:] {
		if _, ok := met[q.Parent]; !ok || q.Id <= l[ahead].Id {
			return nil, false
		}
		met[q.Id] = ahead + 1
	}
	return met, true
}

func (t tree) inRange() bool {
	for _, q := range t.list {
		if q.Weight < 1 || q.Weight > api.MaxWeight || vec.Check(q.Quota) != api.OK || vec.Check(q.Min) != api.OK {
			return false
		}
	}
	return true
}

// guaranteed: can every Min be kept, by its own Quota and by the Min above it?
func (t tree) guaranteed() bool {
	for _, q := range t.list {
		if !vec.Fits(q.Min, q.Quota) || !t.covers(q) {
			return false
		}
	}
	return true
}

func (t tree) covers(q api.Queue) bool {
	var sum api.Vec
	for at := range t.children(q.Id) {
		var err api.Errno
		sum, err = vec.Add(sum, t.list[at].Min)
		if err != api.OK { // above MaxRes, so above every Min
			return false
		}
	}
	return vec.Fits(sum, q.Min)
}
