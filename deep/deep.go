// Package deep copies things with all lists that stand in them, so that a copy shares no memory with what it was made of.
package deep

import (
	"slices"

	"furlong/api"
)

func State(s api.State) api.State {
	s.Queues = slices.Clone(s.Queues)
	s.Nodes = slices.Clone(s.Nodes)
	s.Tasks = slices.Clone(s.Tasks)
	for at := range s.Tasks {
		s.Tasks[at].Tickets = slices.Clone(s.Tasks[at].Tickets)
	}
	s.Leases = Leases(s.Leases)
	s.Hungry = slices.Clone(s.Hungry)
	return s
}

func Answer(a api.Answer) api.Answer {
	a.Cores = slices.Clone(a.Cores)
	a.Leases = Leases(a.Leases)
	return a
}

func Leases(l []api.Lease) []api.Lease {
	l = slices.Clone(l)
	for at := range l {
		l[at].Cores = slices.Clone(l[at].Cores)
	}
	return l
}
