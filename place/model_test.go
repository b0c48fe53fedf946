package place_test

import (
	"math/big"
	"math/rand"
	"slices"
	"testing"

	"furlong/api"
)

// model tells the chapter's words one by one, in numbers without bounds and without any short cut.
type model struct {
	nodes  []api.Node
	leases []api.Lease
}

func inRange(x int64) bool { return 0 <= x && x <= api.MaxRes }

func rises(l []int) bool {
	for i := 1; i < len(l); i++ {
		if l[i] <= l[i-1] {
			return false
		}
	}
	return true
}

func (m model) node(id int) (api.Node, bool) {
	for _, n := range m.nodes {
		if n.Id == id {
			return n, true
		}
	}
	return api.Node{}, false
}

// of is what the leases of a node have: its cores, one behind the other, and the sum of its Mems.
func (m model) of(id int) ([]int, *big.Int) {
	var cores []int
	mem := new(big.Int)
	for _, l := range m.leases {
		if l.Node == id {
			cores = append(cores, l.Cores...)
			mem.Add(mem, big.NewInt(l.Mem))
		}
	}
	return cores, mem
}

func (m model) form() bool {
	var ids []int
	for _, n := range m.nodes {
		ids = append(ids, n.Id)
		if n.Id < 0 || n.Cores < 1 || n.Cores > 64 || !inRange(n.Mem) {
			return false
		}
	}
	if !rises(ids) {
		return false
	}
	for _, l := range m.leases {
		n, ok := m.node(l.Node)
		if !ok || !rises(l.Cores) || !inRange(l.Mem) {
			return false
		}
		if slices.ContainsFunc(l.Cores, func(c int) bool { return c < 0 || c >= n.Cores }) {
			return false
		}
	}
	for _, n := range m.nodes {
		cores, mem := m.of(n.Id)
		slices.Sort(cores)
		if !rises(cores) || mem.Cmp(big.NewInt(n.Mem)) > 0 {
			return false
		}
	}
	return true
}

func (m model) check() api.Errno {
	switch {
	case len(m.nodes) > 64:
		return api.ErrLong
	case !m.form():
		return api.ErrForm
	}
	return api.OK
}

func (m model) free(id int) ([]int, int64, api.Errno) {
	if err := m.check(); err != api.OK {
		return nil, 0, err
	}
	n, ok := m.node(id)
	if !ok {
		return nil, 0, api.ErrNone
	}
	taken, mem := m.of(id)
	free := slices.DeleteFunc(upTo(n.Cores), func(c int) bool { return slices.Contains(taken, c) })
	return free, n.Mem - mem.Int64(), api.OK
}

func (m model) total() (api.Vec, api.Errno) {
	if err := (model{nodes: m.nodes}).check(); err != api.OK {
		return api.Vec{}, err
	}
	sum := v(0, 0)
	for _, n := range m.nodes {
		sum.CPU += int64(n.Cores)
		sum.Mem += n.Mem
	}
	if !inRange(sum.CPU) || !inRange(sum.Mem) {
		return api.Vec{}, api.ErrOver
	}
	return sum, api.OK
}

// found is a node on which something fits.
type found struct {
	id   int
	free []int
}

func (m model) find(need api.Vec) (int, []int, api.Errno) {
	if err := m.check(); err != api.OK {
		return 0, nil, err
	}
	if need.CPU < 1 || need.CPU > 64 || !inRange(need.Mem) {
		return 0, nil, api.ErrArg
	}
	var all []found
	for _, n := range m.nodes {
		free, mem, _ := m.free(n.Id)
		if int64(len(free)) >= need.CPU && mem >= need.Mem {
			all = append(all, found{n.Id, free})
		}
	}
	if len(all) == 0 {
		return 0, nil, api.ErrFull
	}
	slices.SortFunc(all, func(a, b found) int {
		if len(a.free) != len(b.free) {
			return len(a.free) - len(b.free)
		}
		return a.id - b.id
	})
	return all[0].id, all[0].free[:need.CPU], api.OK
}

func nodesOf(r *rand.Rand) []api.Node {
	n := r.Intn(6)
	if r.Intn(20) == 0 {
		n = 63 + r.Intn(3)
	}
	var l []api.Node
	id := r.Intn(2)
	for range n {
		x := node(id, 1+r.Intn(5), r.Int63n(8))
		switch r.Intn(60) {
		case 0:
			x.Cores = []int{0, 64, 65}[r.Intn(3)]
		case 1:
			x.Mem = []int64{-1, api.MaxRes, api.MaxRes, api.MaxRes + 1}[r.Intn(4)]
		case 2:
			x.Id -= r.Intn(3)
		}
		l = append(l, x)
		id += 1 + r.Intn(2)
	}
	return l
}

// leasesOf mostly takes cores that are free yet, and now and then any.
func leasesOf(r *rand.Rand, nodes []api.Node) []api.Lease {
	var l []api.Lease
	for _, n := range nodes {
		left, mem := upTo(max(0, min(n.Cores, 64))), n.Mem
		for range r.Intn(4) {
			var cores []int
			left = slices.DeleteFunc(left, func(c int) bool {
				mine := r.Intn(3) == 0
				if mine {
					cores = append(cores, c)
				}
				return mine
			})
			x := lease(n.Id, r.Int63n(max(1, mem/2+1)), cores...)
			mem -= x.Mem
			l = append(l, x)
		}
	}
	if len(l) > 0 && r.Intn(5) == 0 {
		x := &l[r.Intn(len(l))]
		switch r.Intn(4) {
		case 0:
			x.Cores = append(x.Cores, r.Intn(6))
		case 1:
			x.Mem += int64(r.Intn(9) - 4)
		case 2:
			x.Node += r.Intn(3) - 1
		case 3:
			x.Cores = append([]int{r.Intn(7) - 1}, x.Cores...)
		}
	}
	r.Shuffle(len(l), func(i, j int) { l[i], l[j] = l[j], l[i] })
	return l
}

func TestManyListsAgainstTheModel(t *testing.T) {
	r := rand.New(rand.NewSource(7))
	met := map[api.Errno]int{}
	for range 20000 {
		nodes := nodesOf(r)
		m := model{nodes, leasesOf(r, nodes)}
		id, need := r.Intn(9)-1, v(r.Int63n(6), r.Int63n(6)-int64(r.Intn(20)/19))
		cores, mem, err := m.free(id)
		met[err]++
		checkFree(t, "lists by chance", m.nodes, m.leases, id, cores, mem, err)
		total, err := m.total()
		met[err]++
		checkTotal(t, "nodes by chance", m.nodes, total, err)
		where, cores, err := m.find(need)
		met[err]++
		checkFind(t, "lists by chance", m.nodes, m.leases, need, where, cores, err)
		if t.Failed() {
			t.Fatalf("the lists were %v", m)
		}
	}
	// A search that never meets an error would tell nothing of it.
	for _, err := range []api.Errno{api.OK, api.ErrLong, api.ErrForm, api.ErrNone, api.ErrOver, api.ErrArg, api.ErrFull} {
		if met[err] < 50 {
			t.Errorf("the error %d was met %d times: %v", err, met[err], met)
		}
	}
}
