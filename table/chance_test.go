package table_test

import (
	"math/rand"
	"testing"

	"furlong/api"
	"furlong/queue"
	"furlong/table"
)

// dice makes scripts by chance, of things so small and few that they meet each other often.
type dice struct {
	*rand.Rand
	calm bool // no queues and nodes come and go: then all cores are leased soon, and leaves are hungry
}

func (r dice) one(n int) bool { return r.Intn(n) == 0 }

func (r dice) vec(cpu, mem int64) api.Vec { return v(r.Int63n(cpu+1), r.Int63n(mem+1)) }

// tree is queues of which each Min holds the Mins below it; the first one below the root has none of its own.
func (r dice) tree() []api.Queue {
	l := []api.Queue{q(0, -1, 1, v(3, 6), v(0, 0))}
	for i := range 1 + r.Intn(4) {
		ahead := l[i]
		parent := 0
		if !r.calm {
			parent = l[r.Intn(i+1)].Id
		}
		min := plus(v(1, 2), r.vec(2, 2))
		if i == 0 || r.one(4) {
			min = v(0, 0)
		}
		l = append(l, q(ahead.Id+1+r.Intn(2), parent, 1+r.Int63n(3), plus(min, v(3, 6)), min))
	}
	for at := len(l) - 1; at >= 0; at-- {
		for _, p := range l[at+1:] {
			if p.Parent == l[at].Id {
				l[at].Min = plus(l[at].Min, p.Min)
			}
		}
		l[at].Quota = plus(plus(l[at].Min, l[at].Quota), r.vec(9, 12))
	}
	return l
}

// leaf is mostly one: at first mostly the same one, so that others come late.
func (r dice) leaf(s api.State) int {
	leaves, _ := queue.Leaves(s.Queues)
	switch {
	case r.one(20):
		return s.Queues[r.Intn(len(s.Queues))].Id
	case len(s.Tasks) < 12 && !r.one(5):
		return leaves[0]
	}
	return leaves[r.Intn(len(leaves))]
}

func (r dice) task(s api.State) api.Task {
	t := api.Task{Id: r.Intn(150), Queue: r.leaf(s), Need: v(1+r.Int63n(5)/4, r.Int63n(3)), Work: r.Intn(3)}
	for range 1 + r.Intn(3) {
		t.Tickets = append(t.Tickets, 1+r.Intn(16))
	}
	switch r.Intn(24) {
	case 0:
		t.Id = -1
	case 1:
		t.Tickets[0] = 17 * r.Intn(2)
	case 2:
		t.State = 1 + r.Intn(4)
	case 3:
		t.Queue = r.Intn(20) - 1
	case 4:
		t.Need = v(r.Int63n(70), r.Int63n(70)-1)
	}
	return t
}

func (r dice) queue(s api.State) api.Queue {
	if r.one(2) {
		return q(r.Intn(12), s.Queues[r.Intn(len(s.Queues))].Id, r.Int63n(4), r.vec(9, 16), v(0, 0))
	}
	p := s.Queues[r.Intn(len(s.Queues))]
	switch r.Intn(5) {
	case 0:
		p.Weight = r.Int63n(5)
	case 1:
		p.Min = r.vec(2, 2)
	case 2:
		p.Quota = r.vec(9, 16)
	case 3:
		p.Quota = plus(p.Quota, r.vec(2, 2))
	case 4:
		p.Parent += r.Intn(2)
	}
	return p
}

func (r dice) node(s api.State) api.Node {
	n := api.Node{Id: r.Intn(4), Cores: 1 + r.Intn(4), Mem: 3 + r.Int63n(10), Inc: 1 + r.Intn(3)}
	if len(s.Nodes) > 0 && r.one(2) {
		n.Id, n.Inc = s.Nodes[r.Intn(len(s.Nodes))].Id, s.Nodes[r.Intn(len(s.Nodes))].Inc+r.Intn(3)
	}
	switch r.Intn(20) {
	case 0:
		n.Id -= 4
	case 1:
		n.Cores *= r.Intn(30)
	case 2:
		n.Mem = api.MaxRes + r.Int63n(2)
	case 3:
		n.Beat = r.Intn(3) - 1
	}
	return n
}

// heartbeat is mostly one that is right.
func (r dice) heartbeat(s api.State) api.Command {
	if len(s.Nodes) == 0 || r.one(9) {
		return renew(r.Intn(5), 1, 1+r.Intn(3))
	}
	n := s.Nodes[r.Intn(len(s.Nodes))]
	return renew(n.Id, n.Inc-r.Intn(8)/7, n.Beat+1-r.Intn(6)/5)
}

func (r dice) end(s api.State) api.Command {
	if len(s.Leases) == 0 || r.one(9) {
		return finish(r.Intn(30), r.Intn(4), 1, s.Now)
	}
	l := s.Leases[r.Intn(len(s.Leases))]
	inc := nodeOf(&s, l.Node).Inc
	return finish(l.Task, l.Node+r.Intn(9)/8, inc-r.Intn(9)/8, l.Since-r.Int63n(9)/8)
}

func (r dice) command(s api.State) api.Command {
	if len(s.Nodes) < 2 && r.one(3) || !r.calm && r.one(60) {
		return join(r.node(s))
	}
	most := 40
	if r.calm {
		most = 34
	}
	switch 39 - r.Intn(most) {
	case 0:
		return addQueue(r.queue(s))
	case 1, 2:
		return setQueue(r.queue(s))
	case 3:
		return dropQueue(r.Intn(12))
	case 4:
		return part(r.Intn(5))
	case 5:
		return kill(r.Intn(60))
	case 6, 7, 8, 9, 10, 11, 12, 13:
		return r.heartbeat(s)
	case 14:
		return r.end(s)
	case 15:
		if r.one(4) {
			return api.Command{Kind: []int{-1, 0, 11}[r.Intn(3)]}
		}
	case 16:
		if len(s.Tasks) > 0 && r.one(2) {
			return kill(s.Tasks[r.Intn(len(s.Tasks))].Id)
		}
	case 17, 18, 19, 20, 21, 22, 23, 24, 25, 26, 27:
		return submit(r.task(s))
	}
	return round()
}

// met counts what the scripts came by.
type met struct {
	answers               map[[2]int]int // by Kind and Err
	grants, victims, idle int
	ended, hungry         int
}

func (m *met) count(kind int, a api.Answer, s api.State) {
	m.answers[[2]int{kind, int(a.Err)}]++
	if len(s.Hungry) > 1 {
		m.hungry++
	}
	switch {
	case kind != api.Round || a.Err != api.OK:
	case a.Node >= 0:
		m.grants++
	case a.Task >= 0:
		m.victims++
	default:
		m.idle++
	}
}

// chanceStep does one command or lets time go by, in the table and in the model.
func chanceStep(t *testing.T, r dice, s api.State, m *model, seen *met) api.State {
	t.Helper()
	if r.one(5) {
		gap := r.Int63n(m.long/4 + 2)
		next, err := table.Elapse(s, gap)
		if m.elapse(gap) != err || !same(next, m.state()) {
			t.Fatalf("P11.1: Elapse(%d) of\n%v is\n%v, %d; want\n%v", gap, s, next, err, m.state())
		}
		seen.ended += len(s.Leases) - len(next.Leases)
		return next
	}
	c := r.command(s)
	next, answer := table.Apply(s, c)
	want := m.apply(c)
	if !same(answer, want) || !same(next, m.state()) {
		t.Fatalf("P11.2, P11.3: Apply of %v to\n%v is\n%v, %v; want\n%v, %v", c, s, next, answer, m.state(), want)
	}
	if answer.Err == api.OK && c.Kind == api.Round && answer.Task >= 0 && answer.Node < 0 {
		covered(t, s, answer.Task)
	}
	seen.count(c.Kind, answer, next)
	return next
}

// covered asks for P11.5: without its victim, and without what is Stop, a queue has its Min.
func covered(t *testing.T, s api.State, victim int) {
	t.Helper()
	id := leaseOf(&s, victim).Queue
	left := leased(s, id, func(l api.Lease) bool { return !l.Stop && l.Task != victim })
	if min := queueOf(&s, id).Min; !fits(min, left) {
		t.Fatalf("P11.5: the queue %d yields %d, and has %v left of %v: %v", id, victim, left, min, s)
	}
}

func TestScriptsByChance(t *testing.T) {
	r := dice{Rand: rand.New(rand.NewSource(11))}
	seen := &met{answers: map[[2]int]int{}}
	for i := range 600 {
		r.calm = i%2 == 0
		queues, long, patience := r.tree(), 1+r.Int63n(30), r.Int63n(4)
		s := created(t, queues, long, patience, api.OK)
		m := modelOf(queues, long, patience)
		for range 130 {
			s = chanceStep(t, r, s, m, seen)
			sound(t, "a script by chance", s)
		}
	}
	enough(t, seen)
}

// enough: scripts that never come by a thing would tell nothing of it.
func enough(t *testing.T, seen *met) {
	t.Helper()
	for kind, errs := range map[int][]api.Errno{
		api.Submit:    {api.OK, api.ErrArg, api.ErrExists, api.ErrNone, api.ErrLeaf, api.ErrQuota},
		api.Kill:      {api.OK, api.ErrNone, api.ErrState},
		api.AddQueue:  {api.OK, api.ErrExists, api.ErrArg, api.ErrUse},
		api.SetQueue:  {api.OK, api.ErrNone, api.ErrForm, api.ErrArg, api.ErrQuota},
		api.DropQueue: {api.OK, api.ErrNone, api.ErrForm, api.ErrUse},
		api.Join:      {api.OK, api.ErrArg, api.ErrStale, api.ErrOver},
		api.Part:      {api.OK, api.ErrNone, api.ErrUse},
		api.Renew:     {api.OK, api.ErrNone, api.ErrStale},
		api.Finish:    {api.OK, api.ErrNone, api.ErrStale},
		api.Round:     {api.OK, api.ErrNone},
		0:             {api.ErrArg},
	} {
		for _, err := range errs {
			if n := seen.answers[[2]int{kind, int(err)}]; n < 20 {
				t.Errorf("the Kind %d was answered %d only %d times", kind, err, n)
			}
		}
	}
	if seen.grants < 1000 || seen.victims < 200 || seen.idle < 1000 || seen.ended < 1000 || seen.hungry < 200 {
		t.Errorf("the scripts are too much alike: %d grants, %d victims, %d idle Rounds, %d leases that ended, %d times two were hungry",
			seen.grants, seen.victims, seen.idle, seen.ended, seen.hungry)
	}
}
