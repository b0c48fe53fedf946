package audit_test

import (
	"math/rand"
	"slices"
	"testing"

	"furlong/api"
	"furlong/audit"
	"furlong/table"
)

// entry is a command that is mostly of use, and sometimes refused.
func (r dice) entry(s api.State) api.Command {
	id := 1 + r.Intn(3)
	switch r.Intn(16) {
	case 0, 1, 2, 3:
		return api.Command{Kind: api.Submit, Task: task(r.Intn(400), 1+r.Intn(4), 1+r.Int63n(3), r.Int63n(5), 0)}
	case 4:
		n := api.Node{Id: id, Cores: 1 + r.Intn(4), Mem: r.Int63n(12), Inc: 1 + r.Intn(9)}
		return api.Command{Kind: api.Join, Node: n}
	case 5:
		return api.Command{Kind: api.Part, Id: id}
	case 6, 7:
		return r.renew(s, id)
	case 8:
		if len(s.Tasks) > 0 {
			return api.Command{Kind: api.Kill, Id: s.Tasks[r.Intn(len(s.Tasks))].Id}
		}
	case 9:
		if len(s.Leases) > 0 {
			l := s.Leases[r.Intn(len(s.Leases))]
			return api.Command{Kind: api.Finish, Id: l.Task, Since: l.Since, Inc: nodeOf(&s, l.Node).Inc, Node: api.Node{Id: l.Node}}
		}
	case 10:
		q := s.Queues[r.Intn(len(s.Queues))]
		q.Quota, q.Weight = v(r.Int63n(9), r.Int63n(20)), 1+r.Int63n(3)
		return api.Command{Kind: api.SetQueue, Queue: q}
	case 11:
		return api.Command{Kind: api.AddQueue, Queue: q(3+r.Intn(2), 2*r.Intn(2), 3, 9)}
	case 12:
		return api.Command{Kind: api.DropQueue, Id: 3 + r.Intn(2)}
	}
	return api.Command{Kind: api.Round}
}

func (r dice) renew(s api.State, id int) api.Command {
	for _, n := range s.Nodes {
		if n.Id == id {
			return api.Command{Kind: api.Renew, Id: id, Inc: n.Inc, Beat: n.Beat + 1}
		}
	}
	return api.Command{Kind: api.Renew, Id: id, Inc: 1, Beat: 1}
}

// beginning is three queues, of which one is guaranteed something.
func beginning(r dice) api.State {
	queues := []api.Queue{q(0, -1, 12, 40), q(1, 0, 8, 30), q(2, 0, 8, 30)}
	queues[0].Min, queues[1].Min = v(3, 9), v(3, 9)
	s, _ := table.New(queues, 1+r.Int63n(30), r.Int63n(5))
	return s
}

// seen counts what stands in the states that were looked at.
type seen struct{ leases, stopped, killed, hungry, full int }

func (n *seen) count(s api.State) {
	n.leases += len(s.Leases)
	for _, l := range s.Leases {
		if l.Stop {
			n.stopped++
		}
		if taskOf(&s, l.Task).State == api.Killed {
			n.killed++
		}
	}
	n.hungry += len(s.Hungry)
	if len(s.Leases) > 2 {
		n.full++
	}
}

func TestStatesThatEntriesMake(t *testing.T) {
	r := dice{rand.New(rand.NewSource(13))}
	var n seen
	for range 150 {
		s := beginning(r)
		for range 200 {
			if r.Intn(5) == 0 {
				s, _ = table.Elapse(s, r.Int63n(s.Long/2+2))
			}
			c := r.entry(s)
			s, _ = table.Apply(s, c)
			if got := audit.Check(s); len(got) > 0 {
				t.Fatalf("P12.2: behind %v Check = %v of %v", c, got, s)
			}
			n.count(s)
		}
	}
	if n.leases < 10000 || n.stopped < 1000 || n.killed < 1000 || n.hungry < 1000 || n.full < 1000 {
		t.Errorf("the scripts make too little: %+v", n)
	}
}

// The document's examples 9 and 1: what they grant, and each step of it.
func TestStatesOfTheExamples(t *testing.T) {
	queues := []api.Queue{q(0, -1, 6, 16), q(1, 0, 6, 16), q(2, 0, 6, 16)}
	queues[2].Weight = 2
	s, _ := table.New(queues, 40, 10)
	script := []api.Command{
		{Kind: api.Join, Node: api.Node{Id: 1, Cores: 2, Mem: 8, Inc: 1}}, {Kind: api.Join, Node: api.Node{Id: 2, Cores: 4, Mem: 8, Inc: 1}},
	}
	for id := range 12 {
		script = append(script, api.Command{Kind: api.Submit, Task: task(id, 1+id%2, 1, 1, 0)})
	}
	script = append(script, slices.Repeat([]api.Command{{Kind: api.Round}}, 7)...)
	script = append(script, api.Command{Kind: api.Kill, Id: 0}, api.Command{Kind: api.Part, Id: 1}, api.Command{Kind: api.Renew, Id: 2, Inc: 1, Beat: 1})
	for _, c := range script {
		s, _ = table.Elapse(s, 1)
		s, _ = table.Apply(s, c)
		tells(t, "a step of the examples", s)
	}
	if len(s.Leases) != 6 {
		t.Fatalf("there are %d leases", len(s.Leases))
	}
	s.Now = s.Leases[0].Until
	if got := asked(t, "time that ended no lease", s); len(got) == 0 {
		t.Errorf("P12.1: a lease that should have ended is not told")
	}
}
