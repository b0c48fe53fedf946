package table_test

import (
	"maps"
	"math/big"
	"slices"

	"furlong/api"
	"furlong/queue"
)

// model tells the chapter's words one by one, over things that stand in maps by their numbers; the shares are numbers without bounds.
type model struct {
	long, patience, now int64
	queues              []api.Queue
	nodes               map[int]api.Node
	tasks               map[int]api.Task
	leases              map[int]api.Lease
	hungry              map[int]int64
}

func modelOf(queues []api.Queue, long, patience int64) *model {
	return &model{long: long, patience: patience, queues: slices.Clone(queues), nodes: map[int]api.Node{},
		tasks: map[int]api.Task{}, leases: map[int]api.Lease{}, hungry: map[int]int64{}}
}

func rise[T any](m map[int]T) []T {
	var l []T
	for _, id := range slices.Sorted(maps.Keys(m)) {
		l = append(l, m[id])
	}
	return l
}

func (m *model) state() api.State {
	s := api.State{Long: m.long, Patience: m.patience, Now: m.now, Queues: m.queues, Nodes: rise(m.nodes), Tasks: rise(m.tasks), Leases: rise(m.leases)}
	for _, id := range slices.Sorted(maps.Keys(m.hungry)) {
		s.Hungry = append(s.Hungry, api.Hunger{Queue: id, Since: m.hungry[id]})
	}
	return s
}

// ends has a lease be gone; its task, if it was Leased, is next.
func (m *model) ends(id, next int) {
	delete(m.leases, id)
	if t := m.tasks[id]; t.State == api.Leased {
		t.State = next
		m.tasks[id] = t
	}
}

func (m *model) elapse(gap int64) api.Errno {
	if gap < 0 {
		return api.ErrArg
	}
	m.now += gap
	for id, l := range m.leases {
		if l.Until <= m.now {
			m.ends(id, api.Pending)
		}
	}
	return api.OK
}

func (m *model) queue(id int) (api.Queue, bool) {
	at := slices.IndexFunc(m.queues, func(p api.Queue) bool { return p.Id == id })
	if at < 0 {
		return api.Queue{}, false
	}
	return m.queues[at], true
}

func (m *model) leaf(id int) bool {
	return !slices.ContainsFunc(m.queues, func(p api.Queue) bool { return p.Parent == id })
}

func (m *model) used(id int, counts func(api.Lease) bool) api.Vec {
	return leased(m.state(), id, counts)
}

func (m *model) apply(c api.Command) api.Answer {
	switch c.Kind {
	case api.Submit:
		return m.submit(c.Task)
	case api.Kill:
		return m.kill(c.Id)
	case api.AddQueue:
		l, err := queue.Add(m.queues, c.Queue)
		return m.exchange(l, err, m.holds(c.Queue.Parent), api.ErrUse)
	case api.SetQueue:
		l, err := queue.Set(m.queues, c.Queue)
		return m.exchange(l, err, !fits(m.used(c.Queue.Id, anyLease), c.Queue.Quota), api.ErrQuota)
	case api.DropQueue:
		l, err := queue.Drop(m.queues, c.Id)
		return m.exchange(l, err, m.holds(c.Id), api.ErrUse)
	case api.Join:
		return m.join(c.Node)
	case api.Part:
		return m.part(c.Id)
	case api.Renew:
		return m.renew(c.Id, c.Inc, c.Beat)
	case api.Finish:
		return m.finish(c)
	case api.Round:
		return m.round()
	}
	return api.Answer{Err: api.ErrArg}
}

func (m *model) submit(t api.Task) api.Answer {
	p, there := m.queue(t.Queue)
	_, taken := m.tasks[t.Id]
	bad := slices.ContainsFunc(t.Tickets, func(x int) bool { return x < 1 || x > 16 })
	switch {
	case t.Id < 0, t.Need.CPU < 1, t.Need.CPU > 64, t.Need.Mem < 0, t.Need.Mem > api.MaxRes, t.Work < 0, t.Work > api.MaxRes,
		len(t.Tickets) == 0, len(t.Tickets) > 16, bad, t.State != 0:
		return api.Answer{Err: api.ErrArg}
	case taken:
		return api.Answer{Err: api.ErrExists}
	case len(m.tasks) == 1024:
		return api.Answer{Err: api.ErrFull}
	case !there:
		return api.Answer{Err: api.ErrNone}
	case !m.leaf(p.Id):
		return api.Answer{Err: api.ErrLeaf}
	}
	for _, id := range path(m.queues, p.Id) {
		if above, _ := m.queue(id); !fits(t.Need, above.Quota) {
			return api.Answer{Err: api.ErrQuota}
		}
	}
	t.State = api.Pending
	m.tasks[t.Id] = t
	return api.Answer{Task: t.Id}
}

func (m *model) kill(id int) api.Answer {
	t, there := m.tasks[id]
	switch {
	case !there:
		return api.Answer{Err: api.ErrNone}
	case t.State > api.Leased:
		return api.Answer{Err: api.ErrState}
	}
	t.State = api.Killed
	m.tasks[id] = t
	if l, has := m.leases[id]; has {
		l.Stop = true
		m.leases[id] = l
	}
	return api.Answer{Task: id}
}

func (m *model) holds(id int) bool {
	for _, t := range m.tasks {
		if _, has := m.leases[t.Id]; t.Queue == id && (has || t.State == api.Pending) {
			return true
		}
	}
	return false
}

func (m *model) exchange(l []api.Queue, err api.Errno, bad bool, also api.Errno) api.Answer {
	switch {
	case err != api.OK:
		return api.Answer{Err: err}
	case bad:
		return api.Answer{Err: also}
	}
	m.queues = l
	return api.Answer{}
}

func (m *model) join(n api.Node) api.Answer {
	old, there := m.nodes[n.Id]
	mem := n.Mem
	for _, x := range m.nodes {
		if x.Id != n.Id {
			mem += x.Mem
		}
	}
	switch {
	case n.Id < 0, n.Cores < 1, n.Cores > 64, n.Mem < 0, n.Mem > api.MaxRes, n.Inc < 1, n.Beat != 0:
		return api.Answer{Err: api.ErrArg}
	case there && old.Inc >= n.Inc:
		return api.Answer{Err: api.ErrStale}
	case !there && len(m.nodes) == 64:
		return api.Answer{Err: api.ErrFull}
	case mem > api.MaxRes:
		return api.Answer{Err: api.ErrOver}
	}
	for id, l := range m.leases {
		if l.Node == n.Id {
			m.ends(id, api.Pending)
		}
	}
	m.nodes[n.Id] = n
	return api.Answer{Node: n.Id}
}

func (m *model) part(id int) api.Answer {
	if _, there := m.nodes[id]; !there {
		return api.Answer{Err: api.ErrNone}
	}
	for _, l := range m.leases {
		if l.Node == id {
			return api.Answer{Err: api.ErrUse}
		}
	}
	delete(m.nodes, id)
	return api.Answer{Node: id}
}

func (m *model) renew(id, inc, beat int) api.Answer {
	n, there := m.nodes[id]
	switch {
	case !there:
		return api.Answer{Err: api.ErrNone}
	case n.Inc != inc || beat <= n.Beat:
		return api.Answer{Err: api.ErrStale}
	}
	n.Beat = beat
	m.nodes[id] = n
	answer := api.Answer{Node: id}
	for _, l := range rise(m.leases) {
		if l.Node == id && !l.Stop {
			l.Until = m.now + m.long
			m.leases[l.Task] = l
			answer.Leases = append(answer.Leases, l)
		}
	}
	return answer
}

func (m *model) finish(c api.Command) api.Answer {
	l, there := m.leases[c.Id]
	switch {
	case !there || l.Node != c.Node.Id:
		return api.Answer{Err: api.ErrNone}
	case m.nodes[l.Node].Inc != c.Inc || l.Since != c.Since:
		return api.Answer{Err: api.ErrStale}
	}
	m.ends(c.Id, api.Done)
	return api.Answer{Task: c.Id}
}

func (m *model) round() api.Answer {
	if len(m.nodes) == 0 {
		return api.Answer{Err: api.ErrNone}
	}
	firsts := map[int]api.Task{} // by their queues
	for _, t := range rise(m.tasks) {
		if _, has := firsts[t.Queue]; !has && t.State == api.Pending {
			firsts[t.Queue] = t
		}
	}
	hungry := map[int]int64{}
	want := map[int]api.Task{}
	for id, t := range firsts {
		if p, _ := m.queue(id); fits(plus(m.used(id, anyLease), t.Need), p.Min) {
			since, was := m.hungry[id]
			if !was {
				since = m.now
			}
			hungry[id] = since
		}
		if _, _, found := m.find(t.Need); found && m.room(t) {
			want[id] = t
		}
	}
	m.hungry = hungry
	if len(want) > 0 {
		return m.grant(want)
	}
	return m.preempt()
}

func (m *model) room(t api.Task) bool {
	for _, id := range path(m.queues, t.Queue) {
		if p, _ := m.queue(id); !fits(plus(m.used(id, anyLease), t.Need), p.Quota) {
			return false
		}
	}
	return true
}

func (m *model) find(need api.Vec) (int, []int, bool) {
	where, best, found := 0, []int(nil), false
	for _, n := range rise(m.nodes) {
		free, mem := upTo(n.Cores), n.Mem
		for _, l := range m.leases {
			if l.Node == n.Id {
				mem -= l.Mem
				free = slices.DeleteFunc(free, func(c int) bool { return slices.Contains(l.Cores, c) })
			}
		}
		if int64(len(free)) >= need.CPU && mem >= need.Mem && (!found || len(free) < len(best)) {
			where, best, found = n.Id, free, true
		}
	}
	if !found {
		return 0, nil, false
	}
	return where, best[:need.CPU], true
}

// share is a weighted dominant share of all nodes; nil is above all others.
func (m *model) share(p api.Queue, counts func(api.Lease) bool) *big.Rat {
	var total api.Vec
	for _, n := range m.nodes {
		total = plus(total, v(int64(n.Cores), n.Mem))
	}
	use, most := m.used(p.Id, counts), new(big.Rat)
	for _, part := range [][2]int64{{use.CPU, total.CPU}, {use.Mem, total.Mem}} {
		switch {
		case part[0] == 0:
		case part[1] == 0:
			return nil
		default:
			if f := big.NewRat(part[0], part[1]); f.Cmp(most) > 0 {
				most = f
			}
		}
	}
	return most.Quo(most, big.NewRat(p.Weight, 1))
}

func above(a, b *big.Rat) bool {
	return b != nil && (a == nil || a.Cmp(b) > 0)
}

// grant goes down from the root to the leaf whose turn it is.
func (m *model) grant(want map[int]api.Task) api.Answer {
	here := 0
	for !m.leaf(here) {
		next := -1
		var least *big.Rat
		for _, p := range m.queues {
			wants := false
			for id := range want {
				wants = wants || slices.Contains(path(m.queues, id), p.Id)
			}
			if s := m.share(p, anyLease); p.Parent == here && wants && (next < 0 || above(least, s)) {
				next, least = p.Id, s
			}
		}
		here = next
	}
	t := want[here]
	where, cores, _ := m.find(t.Need)
	m.leases[t.Id] = api.Lease{Task: t.Id, Queue: here, Node: where, Cores: cores, Mem: t.Need.Mem, Since: m.now, Until: m.now + m.long}
	t.State = api.Leased
	m.tasks[t.Id] = t
	return api.Answer{Task: t.Id, Node: where, Cores: cores}
}

func (m *model) mayYield(l api.Lease) bool {
	p, _ := m.queue(l.Queue)
	return !l.Stop && fits(p.Min, m.used(p.Id, func(x api.Lease) bool { return !x.Stop && x.Task != l.Task }))
}

func (m *model) preempt() api.Answer {
	who := -1
	for _, id := range slices.Sorted(maps.Keys(m.hungry)) {
		if m.now-m.hungry[id] >= m.patience && (who < 0 || m.hungry[id] < m.hungry[who]) {
			who = id
		}
	}
	victim := -1
	var most *big.Rat
	for _, p := range m.queues { // by queues first: of several alike the least one
		greatest := -1
		for id, l := range m.leases {
			if l.Queue == p.Id && m.mayYield(l) {
				greatest = max(greatest, id)
			}
		}
		if s := m.share(p, lasts); greatest >= 0 && (victim < 0 || above(s, most)) {
			victim, most = greatest, s
		}
	}
	if who < 0 || victim < 0 {
		return api.Answer{Task: -1, Node: -1}
	}
	m.hungry[who] = m.now
	l := m.leases[victim]
	l.Stop = true
	m.leases[victim] = l
	return api.Answer{Task: victim, Node: -1}
}
