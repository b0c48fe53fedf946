package table

import (
	"slices"

	"furlong/api"
	"furlong/drf"
	"furlong/place"
	"furlong/queue"
	"furlong/victim"
)

// nothing stands in a round's answer where no task or no node is told.
const nothing = -1

// round passes over what the lower layers refuse: of a state that commands made that is nothing but a want of room, of a place, of a victim.
func (d *desk) round() api.Answer {
	if len(d.Nodes) == 0 {
		return refuse(api.ErrNone)
	}
	firsts := d.firsts()
	d.starve(firsts)
	total, _ := place.Total(d.Nodes) // Join keeps it within its bounds
	if first := d.next(firsts, total); first != nil {
		return d.grant(first)
	}
	return d.preempt(total)
}

// firsts: the first task of each leaf that has one, by rising leaf. Tasks rise by Id, so the one that is met first has the least.
func (d *desk) firsts() []*api.Task {
	leaves, _ := queue.Leaves(d.Queues)
	var firsts []*api.Task
search:
	for _, leaf := range leaves {
		for t := range d.tasks() {
			if t.Queue == leaf && t.State == api.Pending {
				firsts = append(firsts, t)
				continue search
			}
		}
	}
	return firsts
}

// starve tells anew who is hungry; who was so already stays so since then.
func (d *desk) starve(firsts []*api.Task) {
	var needs []api.Use
	for _, t := range firsts {
		needs = append(needs, api.Use{Queue: t.Queue, Vec: t.Need})
	}
	starved, _ := victim.Starved(d.Queues, d.Leases, needs)
	var hungry []api.Hunger
	for _, leaf := range starved {
		hungry = append(hungry, api.Hunger{Queue: leaf, Since: d.hungrySince(leaf)})
	}
	d.Hungry = hungry
}

func (d *desk) hungrySince(leaf int) int64 {
	for h := range each(d.Hungry) {
		if h.Queue == leaf {
			return h.Since
		}
	}
	return d.Now
}

// next: the first task whose turn it is, or nil.
func (d *desk) next(firsts []*api.Task, total api.Vec) *api.Task {
	uses, _ := victim.Uses(d.Leases)
	leaf, err := drf.Choose(d.Queues, uses, d.wanted(firsts, uses), total)
	if err != api.OK { // nothing is wanted
		return nil
	}
	at := slices.IndexFunc(firsts, func(t *api.Task) bool { return t.Queue == leaf })
	return firsts[at]
}

// wanted: the leaves whose first task has room and a place.
func (d *desk) wanted(firsts []*api.Task, uses []api.Use) []int {
	var want []int
search:
	for _, t := range firsts {
		if queue.Room(d.Queues, uses, t.Queue, t.Need) != api.OK {
			continue search
		}
		if _, _, err := place.Find(d.Nodes, d.Leases, t.Need); err != api.OK {
			continue search
		}
		want = append(want, t.Queue)
	}
	return want
}

func (d *desk) grant(t *api.Task) api.Answer {
	node, cores, _ := place.Find(d.Nodes, d.Leases, t.Need) // it was found when the task was wanted
	lease := api.Lease{Task: t.Id, Queue: t.Queue, Node: node, Cores: cores, Mem: t.Need.Mem, Since: d.Now, Until: d.Now + d.Long}
	d.Leases = put(d.Leases, lease, func(l api.Lease) int { return l.Task })
	t.State = api.Leased
	return api.Answer{Task: t.Id, Node: node, Cores: slices.Clone(cores)}
}

// preempt has a lease be the last one of its task for now, if somebody was hungry for too long.
func (d *desk) preempt(total api.Vec) api.Answer {
	none := api.Answer{Task: nothing, Node: nothing}
	h := d.hungriest()
	if h == nil {
		return none
	}
	task, err := victim.Choose(d.Queues, d.Leases, total)
	if err != api.OK {
		return none
	}
	h.Since = d.Now
	d.lease(ofTask(task)).Stop = true
	return api.Answer{Task: task, Node: nothing}
}

// hungriest asks strictly, so that of several with one Since the least Queue stays; nil, if all are patient still.
func (d *desk) hungriest() *api.Hunger {
	var longest *api.Hunger
search:
	for h := range each(d.Hungry) {
		switch {
		case d.Now-h.Since < d.Patience:
			continue search
		case longest == nil || h.Since < longest.Since:
			longest = h
		}
	}
	return longest
}
