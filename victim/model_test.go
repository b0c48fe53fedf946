package victim_test

import (
	"math/big"
	"math/rand"
	"slices"
	"testing"

	"furlong/api"
)

// used tells by the chapter's words what some of the leases of a queue use.
func used(leases []api.Lease, id int, counts func(api.Lease) bool) api.Vec {
	var sum api.Vec
	for _, x := range leases {
		if x.Queue == id && counts(x) {
			sum.CPU += int64(len(x.Cores))
			sum.Mem += x.Mem
		}
	}
	return sum
}

func anyLease(api.Lease) bool    { return true }
func lasts(x api.Lease) bool     { return !x.Stop }
func within(a, b api.Vec) bool   { return a.CPU <= b.CPU && a.Mem <= b.Mem }
func plus(a, b api.Vec) api.Vec  { return v(a.CPU+b.CPU, a.Mem+b.Mem) }
func minus(a, b api.Vec) api.Vec { return v(a.CPU-b.CPU, a.Mem-b.Mem) }

// share is a weighted dominant share in numbers without bounds; nil is above all others.
func share(use api.Vec, weight int64, total api.Vec) *big.Rat {
	most := new(big.Rat)
	for _, part := range [][2]int64{{use.CPU, total.CPU}, {use.Mem, total.Mem}} {
		switch {
		case part[0] == 0:
		case part[1] == 0:
			return nil
		default:
			if f := big.NewRat(part[0], part[1]); f.Cmp(most) > 0 {
				most = f
			}
		}
	}
	return most.Quo(most, big.NewRat(weight, 1))
}

func above(a, b *big.Rat) bool {
	return b != nil && (a == nil || a.Cmp(b) > 0)
}

func mayYield(p api.Queue, leases []api.Lease, x api.Lease) bool {
	return x.Queue == p.Id && !x.Stop && within(p.Min, minus(used(leases, p.Id, lasts), v(int64(len(x.Cores)), x.Mem)))
}

// choose goes through the queues and then through the leases of the one, as the chapter says it.
func choose(l []api.Queue, leases []api.Lease, total api.Vec) (int, api.Errno) {
	best := -1
	var most *big.Rat
	for at, p := range l {
		if !slices.ContainsFunc(leases, func(x api.Lease) bool { return mayYield(p, leases, x) }) {
			continue
		}
		s := share(used(leases, p.Id, lasts), p.Weight, total)
		if best < 0 || above(s, most) {
			best, most = at, s
		}
	}
	if best < 0 {
		return 0, api.ErrNone
	}
	var tasks []int
	for _, x := range leases {
		if mayYield(l[best], leases, x) {
			tasks = append(tasks, x.Task)
		}
	}
	return slices.Max(tasks), api.OK
}

func starved(l []api.Queue, leases []api.Lease, need []api.Use) []int {
	var all []int
	for _, n := range need {
		p := l[slices.IndexFunc(l, func(p api.Queue) bool { return p.Id == n.Queue })]
		if within(plus(used(leases, n.Queue, anyLease), n.Vec), p.Min) {
			all = append(all, n.Queue)
		}
	}
	return all
}

func uses(l []api.Queue, leases []api.Lease) []api.Use {
	var all []api.Use
	for _, p := range l {
		if slices.ContainsFunc(leases, func(x api.Lease) bool { return x.Queue == p.Id }) {
			all = append(all, api.Use{Queue: p.Id, Vec: used(leases, p.Id, anyLease)})
		}
	}
	return all
}

// small is so small that shares are often alike and Mins often just covered.
func small(r *rand.Rand) api.Vec { return v(r.Int63n(4), r.Int63n(4)) }

// treeOf is a tree by chance, in which each Min is the sum of those below it, and a little more.
func treeOf(r *rand.Rand) []api.Queue {
	var l []api.Queue
	id := 0
	for i := range 1 + r.Intn(9) {
		parent := -1
		if i > 0 {
			parent = l[r.Intn(i)].Id
		}
		p := q(id, parent, v(0, 0))
		if r.Intn(3) > 0 {
			p.Min = small(r)
		}
		p.Weight = 1 + r.Int63n(3)
		l = append(l, p)
		id += 1 + r.Intn(3)
	}
	for i := len(l) - 1; i > 0; i-- {
		above := slices.IndexFunc(l, func(p api.Queue) bool { return p.Id == l[i].Parent })
		l[above].Min = plus(l[above].Min, l[i].Min)
	}
	return l
}

func leavesOf(l []api.Queue) []int {
	var ids []int
	for _, p := range l {
		if !slices.ContainsFunc(l, func(x api.Queue) bool { return x.Parent == p.Id }) {
			ids = append(ids, p.Id)
		}
	}
	return ids
}

func TestManyAgainstTheModel(t *testing.T) {
	r := rand.New(rand.NewSource(8))
	counts := map[api.Errno]int{}
	for range 6000 {
		l := treeOf(r)
		leaves := leavesOf(l)
		var leases []api.Lease
		for range r.Intn(10) {
			x := lease(r.Intn(50), leaves[r.Intn(len(leaves))], r.Intn(4), r.Int63n(4))
			x.Stop = r.Intn(4) == 0
			leases = append(leases, x)
		}
		var need []api.Use
		for _, id := range leaves {
			if r.Intn(3) > 0 {
				need = append(need, api.Use{Queue: id, Vec: small(r)})
			}
		}
		total := v(r.Int63n(9), r.Int63n(9))
		task, err := choose(l, leases, total)
		counts[err]++
		checkUses(t, "by chance", leases, uses(l, leases), api.OK)
		checkStarved(t, "by chance", l, leases, need, starved(l, leases, need), api.OK)
		checkChoose(t, "by chance", l, leases, total, task, err)
		if t.Failed() {
			t.Fatalf("the call was %v, %v, %v, %v", l, leases, need, total)
		}
	}
	if counts[api.OK] < 1000 || counts[api.ErrNone] < 500 {
		t.Errorf("the calls by chance are too much alike: %v", counts)
	}
}
