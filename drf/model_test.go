package drf_test

import (
	"math/big"
	"math/rand"
	"slices"
	"testing"

	"furlong/api"
)

// share is a weighted dominant share in numbers without bounds; nil is above all others.
func share(used []api.Vec, weight int64, total api.Vec) *big.Rat {
	cpu, mem := new(big.Rat), new(big.Rat)
	for _, u := range used {
		cpu.Add(cpu, big.NewRat(u.CPU, 1))
		mem.Add(mem, big.NewRat(u.Mem, 1))
	}
	if cpu.Sign() > 0 && total.CPU == 0 || mem.Sign() > 0 && total.Mem == 0 {
		return nil
	}
	if total.CPU > 0 {
		cpu.Quo(cpu, big.NewRat(total.CPU, 1))
	}
	if total.Mem > 0 {
		mem.Quo(mem, big.NewRat(total.Mem, 1))
	}
	if mem.Cmp(cpu) > 0 {
		cpu = mem
	}
	return cpu.Quo(cpu, big.NewRat(weight, 1))
}

func less(a, b *big.Rat) bool {
	return a != nil && (b == nil || a.Cmp(b) < 0)
}

// isBelow tells by the parents alone whether a queue is another one or stands under it.
func isBelow(l []api.Queue, id, top int) bool {
	for id != top && id != -1 {
		id = l[slices.IndexFunc(l, func(p api.Queue) bool { return p.Id == id })].Parent
	}
	return id == top
}

// choose tells the chapter's words one by one, from a queue down.
func choose(c call, here int) int {
	best, leaf := -1, true
	var least *big.Rat
	for _, p := range c.l {
		if p.Parent != here {
			continue
		}
		leaf = false
		if !slices.ContainsFunc(c.want, func(id int) bool { return isBelow(c.l, id, p.Id) }) {
			continue
		}
		var used []api.Vec
		for _, u := range c.uses {
			if isBelow(c.l, u.Queue, p.Id) {
				used = append(used, u.Vec)
			}
		}
		s := share(used, p.Weight, c.total)
		if best == -1 || less(s, least) {
			best, least = p.Id, s
		}
	}
	if leaf {
		return here
	}
	return choose(c, best)
}

func order(c call) []int {
	var all []int
	for len(c.want) > 0 {
		next := choose(c, 0)
		all = append(all, next)
		c.want = slices.DeleteFunc(slices.Clone(c.want), func(id int) bool { return id == next })
	}
	return all
}

// few is small, so that shares are often alike, and seldom great.
func few(r *rand.Rand) int64 {
	if r.Intn(40) == 0 {
		return api.MaxRes / 64
	}
	return r.Int63n(4)
}

func callOf(r *rand.Rand) call {
	n := 1 + r.Intn(12)
	if r.Intn(20) == 0 {
		n = 64
	}
	c := call{name: "by chance", total: v(r.Int63n(5), r.Int63n(5))}
	id := 0
	for i := range n {
		parent := -1
		if i > 0 {
			parent = c.l[r.Intn(i)].Id
		}
		weight := 1 + r.Int63n(3)
		if r.Intn(30) == 0 {
			weight = api.MaxWeight
		}
		c.l = append(c.l, q(id, parent, weight))
		id += 1 + r.Intn(3)
	}
	for _, p := range c.l {
		if slices.ContainsFunc(c.l, func(x api.Queue) bool { return x.Parent == p.Id }) {
			continue
		}
		for range r.Intn(3) {
			c.uses = append(c.uses, use(p.Id, few(r), few(r)))
		}
		if r.Intn(3) > 0 {
			c.want = append(c.want, p.Id)
		}
	}
	r.Shuffle(len(c.uses), func(i, j int) { c.uses[i], c.uses[j] = c.uses[j], c.uses[i] })
	return c
}

func TestManyTreesAgainstTheModel(t *testing.T) {
	r := rand.New(rand.NewSource(6))
	for range 4000 {
		c := callOf(r)
		if len(c.want) == 0 {
			c.fails(t, api.ErrNone)
			continue
		}
		c.tells(t, order(c)...)
		if t.Failed() {
			t.Fatalf("the call was %v", c)
		}
	}
}
