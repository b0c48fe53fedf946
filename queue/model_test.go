package queue_test

import (
	"math/big"
	"math/rand"
	"slices"
	"testing"

	"furlong/api"
	"furlong/queue"
)

// model tells the chapter's words one by one, in numbers without bounds and without any short cut.
type model []api.Queue

func (l model) at(id int) int {
	return slices.IndexFunc(l, func(p api.Queue) bool { return p.Id == id })
}

func (l model) form() bool {
	if len(l) == 0 || l[0].Id != 0 || l[0].Parent != -1 {
		return false
	}
	for i := 1; i < len(l); i++ {
		if l[i].Id <= l[i-1].Id || l[:i].at(l[i].Parent) < 0 {
			return false
		}
	}
	return true
}

func amount(a api.Vec) bool {
	return a.CPU >= 0 && a.CPU <= api.MaxRes && a.Mem >= 0 && a.Mem <= api.MaxRes
}

// sum is of amounts without a bound: cores and memory.
type sum [2]*big.Int

func total(l ...api.Vec) sum {
	s := sum{new(big.Int), new(big.Int)}
	for _, a := range l {
		s[0].Add(s[0], big.NewInt(a.CPU))
		s[1].Add(s[1], big.NewInt(a.Mem))
	}
	return s
}

func (s sum) fits(a api.Vec) bool {
	return s[0].Cmp(big.NewInt(a.CPU)) <= 0 && s[1].Cmp(big.NewInt(a.Mem)) <= 0
}

func (l model) check() api.Errno {
	if len(l) > 64 {
		return api.ErrLong
	}
	if !l.form() {
		return api.ErrForm
	}
	for _, p := range l {
		if p.Weight < 1 || p.Weight > api.MaxWeight || !amount(p.Quota) || !amount(p.Min) {
			return api.ErrArg
		}
	}
	for _, p := range l {
		var mins []api.Vec
		for _, id := range l.children(p.Id) {
			mins = append(mins, l[l.at(id)].Min)
		}
		if !total(p.Min).fits(p.Quota) || !total(mins...).fits(p.Min) {
			return api.ErrQuota
		}
	}
	return api.OK
}

func (l model) children(id int) []int {
	var ids []int
	for _, p := range l {
		if p.Parent == id {
			ids = append(ids, p.Id)
		}
	}
	return ids
}

func (l model) path(id int) []int {
	if id == -1 {
		return nil
	}
	return append([]int{id}, l.path(l[l.at(id)].Parent)...)
}

func (l model) below(id int) []int {
	var ids []int
	for _, p := range l {
		if slices.Contains(l.path(p.Id), id) {
			ids = append(ids, p.Id)
		}
	}
	return ids
}

func (l model) leaves() []int {
	var ids []int
	for _, p := range l {
		if len(l.children(p.Id)) == 0 {
			ids = append(ids, p.Id)
		}
	}
	return ids
}

func (l model) checkUse(id int, a api.Vec) api.Errno {
	switch {
	case l.at(id) < 0:
		return api.ErrNone
	case len(l.children(id)) > 0:
		return api.ErrLeaf
	case !amount(a):
		return api.ErrArg
	}
	return api.OK
}

func (l model) usedBelow(uses []api.Use, id int) []api.Vec {
	var all []api.Vec
	for _, u := range uses {
		if slices.Contains(l.below(id), u.Queue) {
			all = append(all, u.Vec)
		}
	}
	return all
}

func (l model) sums(uses []api.Use) ([]api.Vec, api.Errno) {
	if err := l.check(); err != api.OK {
		return nil, err
	}
	for _, u := range uses {
		if err := l.checkUse(u.Queue, u.Vec); err != api.OK {
			return nil, err
		}
	}
	var all []api.Vec
	for _, p := range l {
		s := total(l.usedBelow(uses, p.Id)...)
		if !s.fits(v(api.MaxRes, api.MaxRes)) {
			return nil, api.ErrOver
		}
		all = append(all, v(s[0].Int64(), s[1].Int64()))
	}
	return all, api.OK
}

func (l model) room(uses []api.Use, leaf int, more api.Vec) api.Errno {
	if _, err := l.sums(uses); err != api.OK {
		return err
	}
	if err := l.checkUse(leaf, more); err != api.OK {
		return err
	}
	for _, id := range l.path(leaf) {
		if !total(append(l.usedBelow(uses, id), more)...).fits(l[l.at(id)].Quota) {
			return api.ErrQuota
		}
	}
	return api.OK
}

func (l model) add(p api.Queue) ([]api.Queue, api.Errno) {
	switch err := l.check(); {
	case err != api.OK:
		return nil, err
	case l.at(p.Id) >= 0:
		return nil, api.ErrExists
	case len(l) >= 64:
		return nil, api.ErrFull
	case l.at(p.Parent) < 0:
		return nil, api.ErrNone
	}
	m := append(slices.Clone(l), p)
	slices.SortFunc(m, func(a, b api.Queue) int {
		if a.Id < b.Id {
			return -1
		}
		return 1
	})
	return m.told()
}

func (l model) set(p api.Queue) ([]api.Queue, api.Errno) {
	switch err := l.check(); {
	case err != api.OK:
		return nil, err
	case l.at(p.Id) < 0:
		return nil, api.ErrNone
	case l[l.at(p.Id)].Parent != p.Parent:
		return nil, api.ErrForm
	}
	return model(with(l, l.at(p.Id), p)).told()
}

func (l model) told() ([]api.Queue, api.Errno) {
	if err := l.check(); err != api.OK {
		return nil, err
	}
	return l, api.OK
}

func (l model) drop(id int) ([]api.Queue, api.Errno) {
	switch err := l.check(); {
	case err != api.OK:
		return nil, err
	case l.at(id) < 0:
		return nil, api.ErrNone
	case id == 0:
		return nil, api.ErrForm
	case len(l.children(id)) > 0:
		return nil, api.ErrUse
	}
	return slices.DeleteFunc(slices.Clone(l), func(p api.Queue) bool { return p.Id == id }), api.OK
}

func (l model) walk(id int, way func(model, int) []int) ([]int, api.Errno) {
	if err := l.check(); err != api.OK {
		return nil, err
	}
	if l.at(id) < 0 {
		return nil, api.ErrNone
	}
	return way(l, id), api.OK
}

// amountOf is small, so that quotas and guarantees are met by just enough and by one less, and seldom at or beyond the ends.
func amountOf(r *rand.Rand, most int64) api.Vec {
	one := func() int64 {
		switch r.Intn(80) {
		case 0:
			return -1
		case 1:
			return api.MaxRes
		case 2:
			return api.MaxRes + 1
		}
		return r.Int63n(most + 1)
	}
	return v(one(), one())
}

// queueOf is a queue whose numbers are mostly right.
func queueOf(r *rand.Rand, id, parent int, most int64) api.Queue {
	p := api.Queue{Id: id, Parent: parent, Weight: 1 + r.Int63n(9), Quota: v(12, 12)}
	if r.Intn(3) == 0 {
		p.Quota = amountOf(r, 12)
	}
	if r.Intn(3) == 0 {
		p.Min = amountOf(r, most)
	}
	if r.Intn(200) == 0 {
		p.Weight = []int64{0, -1, api.MaxWeight, api.MaxWeight + 1}[r.Intn(4)]
	}
	return p
}

func listOf(r *rand.Rand) []api.Queue {
	var l []api.Queue
	n := 1 + r.Intn(8)
	if r.Intn(10) == 0 {
		n = 60 + r.Intn(6)
	}
	id := 0
	for i := range n {
		parent := -1
		if i > 0 {
			parent = l[r.Intn(i)].Id
		}
		p := queueOf(r, id, parent, int64(8/(1+i)))
		if n > 10 {
			p = q(id, parent)
		}
		l = append(l, p)
		id += 1 + r.Intn(2)
	}
	switch r.Intn(25) {
	case 0:
		l[r.Intn(n)].Id += r.Intn(5) - 2
	case 1:
		l[r.Intn(n)].Parent += r.Intn(5) - 2
	case 2:
		l = l[1:]
	}
	return l
}

func usesOf(r *rand.Rand, l []api.Queue) []api.Use {
	leaves := model(l).leaves()
	var uses []api.Use
	for range r.Intn(5) {
		u := api.Use{Queue: r.Intn(12) - 1, Vec: amountOf(r, 4)}
		if len(leaves) > 0 && r.Intn(12) > 0 {
			u.Queue = leaves[r.Intn(len(leaves))]
		}
		uses = append(uses, u)
	}
	return uses
}

func compareAll(t *testing.T, r *rand.Rand, l []api.Queue, met map[api.Errno]int) {
	t.Helper()
	m := model(l)
	id := r.Intn(14) - 1
	p := queueOf(r, r.Intn(14)-1, r.Intn(10)-1, 3)
	if at := m.at(p.Id); at >= 0 && r.Intn(4) > 0 {
		p.Parent = l[at].Parent
	}
	uses, more := usesOf(r, l), amountOf(r, 9)
	if err := queue.Check(l); err != m.check() {
		t.Errorf("errors: Check(%v) = %d; want %d", l, err, m.check())
	}
	want, wantErr := m.add(p)
	met[wantErr]++
	got, err := queue.Add(l, p)
	equal(t, "P5.1: Add", got, err, want, wantErr)
	want, wantErr = m.set(p)
	got, err = queue.Set(l, p)
	equal(t, "P5.1: Set", got, err, want, wantErr)
	want, wantErr = m.drop(id)
	met[wantErr]++
	got, err = queue.Drop(l, id)
	equal(t, "P5.1: Drop", got, err, want, wantErr)
	compareWalks(t, l, id)
	sums, wantErr := m.sums(uses)
	met[wantErr]++
	told, err := queue.Sums(l, uses)
	equal(t, "P5.3: Sums", told, err, sums, wantErr)
	wantErr = m.room(uses, id, more)
	met[wantErr]++
	if err := queue.Room(l, uses, id, more); err != wantErr {
		t.Errorf("P5.3: Room(%v, %v, %d, %v) = %d; want %d", l, uses, id, more, err, wantErr)
	}
}

func compareWalks(t *testing.T, l []api.Queue, id int) {
	t.Helper()
	m := model(l)
	want, wantErr := m.walk(0, func(m model, _ int) []int { return m.leaves() })
	got, err := queue.Leaves(l)
	equal(t, "P5.2: Leaves", got, err, want, wantErr)
	want, wantErr = m.walk(id, model.children)
	got, err = queue.Children(l, id)
	equal(t, "P5.2: Children", got, err, want, wantErr)
	want, wantErr = m.walk(id, model.path)
	got, err = queue.Path(l, id)
	equal(t, "P5.2: Path", got, err, want, wantErr)
	want, wantErr = m.walk(id, model.below)
	got, err = queue.Below(l, id)
	equal(t, "P5.2: Below", got, err, want, wantErr)
}

func TestManyListsAgainstTheModel(t *testing.T) {
	r := rand.New(rand.NewSource(5))
	met := map[api.Errno]int{}
	for range 10000 {
		compareAll(t, r, listOf(r), met)
		if t.Failed() {
			return
		}
	}
	// A search that never meets an error would tell nothing of it.
	for _, err := range []api.Errno{api.OK, api.ErrLong, api.ErrForm, api.ErrArg, api.ErrQuota, api.ErrExists, api.ErrFull, api.ErrNone, api.ErrUse, api.ErrLeaf, api.ErrOver} {
		if met[err] < 10 {
			t.Errorf("the error %d was met %d times: %v", err, met[err], met)
		}
	}
}
