package table

import (
	"slices"

	"furlong/api"
	"furlong/queue"
	"furlong/vec"
)

func (d *desk) submit(t api.Task) api.Answer {
	switch {
	case !submittable(t):
		return refuse(api.ErrArg)
	case d.task(t.Id) != nil:
		return refuse(api.ErrExists)
	case len(d.Tasks) >= api.MaxTasks:
		return refuse(api.ErrFull)
	}
	// With nothing used, there is room just where the need fits in each Quota.
	if err := queue.Room(d.Queues, nil, t.Queue, t.Need); err != api.OK {
		return refuse(err)
	}
	t.Tickets = slices.Clone(t.Tickets)
	t.State = api.Pending
	d.Tasks = put(d.Tasks, t, func(t api.Task) int { return t.Id })
	return api.Answer{Task: t.Id}
}

func submittable(t api.Task) bool {
	for _, tickets := range t.Tickets {
		if !within(tickets, 1, api.MaxTickets) {
			return false
		}
	}
	return t.Id >= 0 && t.State == 0 && within(t.Work, 0, api.MaxRes) && within(len(t.Tickets), 1, api.MaxThreads) &&
		within(t.Need.CPU, 1, api.MaxCores) && vec.Check(t.Need) == api.OK
}

func (d *desk) kill(id int) api.Answer {
	t := d.task(id)
	switch {
	case t == nil:
		return refuse(api.ErrNone)
	case t.State == api.Done || t.State == api.Killed:
		return refuse(api.ErrState)
	}
	t.State = api.Killed
	for l := range d.leases(ofTask(id)) {
		l.Stop = true
	}
	return api.Answer{Task: id}
}

func (d *desk) finish(id, node, inc int, since int64) api.Answer {
	l := d.lease(func(l api.Lease) bool { return l.Task == id && l.Node == node })
	n := d.node(node)
	switch {
	case l == nil || n == nil:
		return refuse(api.ErrNone)
	case n.Inc != inc || l.Since != since:
		return refuse(api.ErrStale)
	}
	d.takeBack(api.Done, ofTask(id))
	return api.Answer{Task: id}
}
