package table

import (
	"slices"

	"furlong/api"
	"furlong/deep"
	"furlong/place"
)

func (d *desk) join(n api.Node) api.Answer {
	if n.Id < 0 || !within(n.Cores, 1, api.MaxCores) || !within(n.Mem, 0, api.MaxRes) || n.Inc < 1 || n.Beat != 0 {
		return refuse(api.ErrArg)
	}
	here := d.node(n.Id)
	switch {
	case here != nil && here.Inc >= n.Inc:
		return refuse(api.ErrStale)
	case here == nil && len(d.Nodes) >= api.MaxNodes:
		return refuse(api.ErrFull)
	}
	nodes := put(d.others(n.Id), n, func(n api.Node) int { return n.Id })
	if _, err := place.Total(nodes); err == api.ErrOver {
		return refuse(err)
	}
	d.Nodes = nodes
	d.takeBack(api.Pending, onNode(n.Id))
	return api.Answer{Node: n.Id}
}

func (d *desk) part(id int) api.Answer {
	switch {
	case d.node(id) == nil:
		return refuse(api.ErrNone)
	case d.lease(onNode(id)) != nil:
		return refuse(api.ErrUse)
	}
	d.Nodes = d.others(id)
	return api.Answer{Node: id}
}

// others: the nodes without that one.
func (d *desk) others(id int) []api.Node {
	return slices.DeleteFunc(slices.Clone(d.Nodes), func(n api.Node) bool { return n.Id == id })
}

func (d *desk) renew(id, inc, beat int) api.Answer {
	n := d.node(id)
	switch {
	case n == nil:
		return refuse(api.ErrNone)
	case n.Inc != inc || n.Beat >= beat:
		return refuse(api.ErrStale)
	}
	n.Beat = beat
	var renewed []api.Lease
	for l := range d.leases(onNode(id)) {
		if l.Stop {
			continue
		}
		l.Until = d.Now + d.Long
		renewed = append(renewed, *l)
	}
	return api.Answer{Node: id, Leases: deep.Leases(renewed)}
}
