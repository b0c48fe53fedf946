package table

import (
	"furlong/api"
	"furlong/queue"
	"furlong/vec"
	"furlong/victim"
)

func (d *desk) addQueue(q api.Queue) api.Answer {
	l, err := queue.Add(d.Queues, q)
	switch {
	case err != api.OK:
		return refuse(err)
	case d.inUse(q.Parent):
		return refuse(api.ErrUse)
	}
	d.Queues = l
	return api.Answer{}
}

func (d *desk) setQueue(q api.Queue) api.Answer {
	l, err := queue.Set(d.Queues, q)
	switch {
	case err != api.OK:
		return refuse(err)
	case !d.fitIn(l):
		return refuse(api.ErrQuota)
	}
	d.Queues = l
	return api.Answer{}
}

func (d *desk) dropQueue(id int) api.Answer {
	l, err := queue.Drop(d.Queues, id)
	switch {
	case err != api.OK:
		return refuse(err)
	case d.inUse(id):
		return refuse(api.ErrUse)
	}
	d.Queues = l
	return api.Answer{}
}

// inUse: does a task of that queue wait, or a lease of it last? Such a queue must stay a leaf.
func (d *desk) inUse(id int) bool {
	for t := range d.tasks() {
		if t.Queue == id && t.State == api.Pending {
			return true
		}
	}
	return d.lease(ofQueue(id)) != nil
}

// fitIn: is what is leased within the Quotas of l?
func (d *desk) fitIn(l []api.Queue) bool {
	uses, _ := victim.Uses(d.Leases) // leases that commands made are never refused
	sums, _ := queue.Sums(l, uses)
	for at, sum := range sums {
		if !vec.Fits(sum, l[at].Quota) {
			return false
		}
	}
	return true
}
