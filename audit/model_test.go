package audit_test

import (
	"math"
	"math/big"
	"math/rand"
	"slices"
	"testing"

	"furlong/api"
	"furlong/audit"
	"furlong/queue"
)

// sum is exact, however great it is.
func sum(l []int64) *big.Int {
	all := new(big.Int)
	for _, x := range l {
		all.Add(all, big.NewInt(x))
	}
	return all
}

// above tells a sum that leaves int64 for one that is too great.
func above(l []int64, most int64) bool {
	s := sum(l)
	return !s.IsInt64() || s.Cmp(big.NewInt(most)) > 0
}

func below(s api.State, id, of int) bool {
	for at := len(s.Queues) - 1; at >= 0; at-- { // parents stand ahead of their children
		if s.Queues[at].Id == id {
			if id == of {
				return true
			}
			id = s.Queues[at].Parent
		}
	}
	return false
}

func overQuota(s api.State, q api.Queue) bool {
	var cores, mems []int64
	for _, l := range s.Leases {
		if below(s, l.Queue, q.Id) {
			cores, mems = append(cores, int64(len(l.Cores))), append(mems, l.Mem)
		}
	}
	return above(cores, q.Quota.CPU) || above(mems, q.Quota.Mem)
}

func overNode(s api.State, n api.Node) bool {
	var mems []int64
	for _, l := range s.Leases {
		if l.Node != n.Id {
			continue
		}
		mems = append(mems, l.Mem)
		sorted := slices.Sorted(slices.Values(l.Cores))
		if len(sorted) == 0 || sorted[0] < 0 || sorted[len(sorted)-1] >= n.Cores || len(slices.Compact(sorted)) < len(l.Cores) || l.Mem < 0 {
			return true
		}
	}
	return above(mems, n.Mem)
}

func twoTasks(s api.State, n api.Node) bool {
	for at, l := range s.Leases {
		for _, other := range s.Leases[:at] {
			for _, core := range l.Cores {
				if l.Node == n.Id && other.Node == n.Id && slices.Contains(other.Cores, core) {
					return true
				}
			}
		}
	}
	return false
}

func noTask(s api.State, l api.Lease) bool {
	onNode := slices.ContainsFunc(s.Nodes, func(n api.Node) bool { return n.Id == l.Node })
	return !onNode || !slices.ContainsFunc(s.Tasks, func(t api.Task) bool {
		return t.Id == l.Task && (t.State == api.Leased || t.State == api.Killed) && t.Queue == l.Queue &&
			t.Need.CPU == int64(len(l.Cores)) && t.Need.Mem == l.Mem
	})
}

func noLease(s api.State, t api.Task) bool {
	return t.State == api.Leased && !slices.ContainsFunc(s.Leases, func(l api.Lease) bool { return l.Task == t.Id })
}

func timeless(s api.State, l api.Lease) bool {
	left := new(big.Int).Sub(big.NewInt(l.Until), big.NewInt(s.Now))
	return left.Sign() <= 0 || left.Cmp(big.NewInt(s.Long)) > 0 || l.Since > s.Now
}

func falls[T any](l []T, of func(T) int) bool {
	for at := range l {
		for _, ahead := range l[:at] {
			if of(ahead) >= of(l[at]) {
				return true
			}
		}
	}
	return false
}

func formless(s api.State) bool {
	return queue.Check(s.Queues) != api.OK || falls(s.Nodes, func(n api.Node) int { return n.Id }) || falls(s.Tasks, func(t api.Task) int { return t.Id }) ||
		falls(s.Leases, func(l api.Lease) int { return l.Task }) || falls(s.Hungry, func(h api.Hunger) int { return h.Queue })
}

// model is Check, reckoned slowly.
func model(s api.State) []audit.Problem {
	if formless(s) {
		return just(audit.Form, 0)
	}
	var all []audit.Problem
	tell := func(wrong bool, what, id int) {
		if wrong {
			all = append(all, problem(what, id))
		}
	}
	for _, q := range s.Queues {
		tell(overQuota(s, q), audit.OverQuota, q.Id)
	}
	for _, n := range s.Nodes {
		tell(overNode(s, n), audit.OverNode, n.Id)
	}
	for _, n := range s.Nodes {
		tell(twoTasks(s, n), audit.TwoTasks, n.Id)
	}
	for _, l := range s.Leases {
		tell(noTask(s, l), audit.NoTask, l.Task)
	}
	for _, t := range s.Tasks {
		tell(noLease(s, t), audit.NoLease, t.Id)
	}
	for _, l := range s.Leases {
		tell(timeless(s, l), audit.Timeless, l.Task)
	}
	return all
}

// dice makes states by chance.
type dice struct{ *rand.Rand }

func (r dice) mem() int64 {
	ends := []int64{-1, 0, 1, 15, 16, math.MaxInt64, math.MaxInt64 - 1, math.MinInt64}
	if r.Intn(3) > 0 {
		return r.Int63n(9)
	}
	return ends[r.Intn(len(ends))]
}

// aState has lists that mostly rise, and things in them that mostly belong together.
func (r dice) aState() api.State {
	s := api.State{Long: 1 + r.Int63n(40), Now: r.Int63n(100), Queues: []api.Queue{q(0, -1, 4+r.Int63n(20), 20+r.Int63n(60))}}
	for id := 1; id < 2+r.Intn(5); id++ {
		s.Queues = append(s.Queues, q(2*id, s.Queues[r.Intn(id)].Id, 2+r.Int63n(9), 9+r.Int63n(30)))
	}
	for id := range 1 + r.Intn(4) {
		s.Nodes = append(s.Nodes, api.Node{Id: 3 * id, Cores: 1 + r.Intn(8), Mem: 4 + r.Int63n(30)})
	}
	for id := range r.Intn(12) {
		t := task(2*id, s.Queues[r.Intn(len(s.Queues))].Id, 1+r.Int63n(2), r.Int63n(9), 1+r.Intn(4))
		s.Tasks = append(s.Tasks, t)
		if t.State == api.Leased || t.State == api.Killed && r.Intn(2) == 0 {
			s.Leases = append(s.Leases, r.lease(s, t))
		}
	}
	for range r.Intn(4) {
		r.bend(&s)
	}
	return s
}

func (r dice) lease(s api.State, t api.Task) api.Lease {
	n := s.Nodes[r.Intn(len(s.Nodes))]
	l := lease(t.Id, t.Queue, n.Id, t.Need.Mem)
	l.Since, l.Until = s.Now-r.Int63n(9), s.Now+1+r.Int63n(s.Long)
	for range t.Need.CPU {
		l.Cores = append(l.Cores, r.Intn(n.Cores))
	}
	return l
}

// bend changes one thing.
func (r dice) bend(s *api.State) {
	ends := []int64{s.Now - 1, s.Now, s.Now + 1, s.Now + s.Long, s.Now + s.Long + 1, math.MaxInt64, math.MinInt64, -1}
	switch r.Intn(9) {
	case 0:
		s.Queues[r.Intn(len(s.Queues))].Quota = v(r.Int63n(6), r.Int63n(20))
	case 1:
		n := &s.Nodes[r.Intn(len(s.Nodes))]
		n.Cores, n.Mem = r.Intn(4), r.Int63n(9)
	case 2:
		s.Now = ends[r.Intn(len(ends))]
	case 3:
		if len(s.Tasks) > 0 {
			s.Tasks = slices.Delete(s.Tasks, 0, 1)
		}
	case 4:
		if len(s.Leases) > 1 && r.Intn(4) == 0 {
			fall(s.Leases, r.Intn(len(s.Leases)-1))
		}
	default:
		if len(s.Leases) > 0 {
			r.bendLease(&s.Leases[r.Intn(len(s.Leases))], ends)
		}
	}
}

func (r dice) bendLease(l *api.Lease, ends []int64) {
	switch r.Intn(8) {
	case 0:
		l.Queue = r.Intn(12) - 1
	case 1:
		l.Node = 100 + l.Task
	case 2:
		l.Mem = r.mem()
	case 3:
		l.Cores = append(l.Cores, r.Intn(10)-1)
	case 4:
		l.Cores = nil
	case 5:
		l.Until = ends[r.Intn(len(ends))]
	case 6:
		l.Since = ends[r.Intn(len(ends))]
	case 7:
		l.Task++
	}
}

func TestStatesByChance(t *testing.T) {
	r := dice{rand.New(rand.NewSource(12))}
	seen := map[int]int{}
	for range 20000 {
		s := r.aState()
		want := model(s)
		if got := audit.Check(s); !slices.Equal(got, want) {
			t.Fatalf("P12.1: Check of %v = %v; want %v", s, got, want)
		}
		for _, p := range want {
			seen[p.What]++
		}
		if len(want) == 0 {
			seen[0]++
		}
	}
	for what := range audit.Timeless + 1 {
		if seen[what] < 300 {
			t.Errorf("problems of the kind %d are met %d times", what, seen[what])
		}
	}
}
