package stride_test

import (
	"math/big"
	"math/rand"
	"slices"
	"testing"

	"furlong/api"
	"furlong/stride"
)

// model keeps passes as numbers without bounds, which are never taken down; only what is told is counted from the least one.
type model struct {
	tickets map[int]int64
	pass    map[int]*big.Int
}

func (m model) ids() []int {
	var l []int
	for id := range m.tickets {
		l = append(l, id)
	}
	slices.Sort(l)
	return l
}

// next is the Id of the least pass, and nil of nobody.
func (m model) next() (int, *big.Int) {
	best, least := 0, (*big.Int)(nil)
	for _, id := range m.ids() {
		if least == nil || m.pass[id].Cmp(least) < 0 {
			best, least = id, m.pass[id]
		}
	}
	return best, least
}

// from is how far a client is, counted from the least far one.
func (m model) from(id int) *big.Int {
	_, least := m.next()
	return new(big.Int).Sub(m.pass[id], least)
}

func (m model) join(id, tickets int, remain int64) {
	pass := big.NewInt(remain)
	if _, least := m.next(); least != nil {
		pass.Add(pass, least)
	}
	m.tickets[id], m.pass[id] = int64(tickets), pass
}

func (m model) leave(id int) int64 {
	pass := m.from(id).Int64()
	delete(m.tickets, id)
	delete(m.pass, id)
	return pass
}

func (m model) change(id, tickets int) {
	_, least := m.next()
	base := new(big.Int).Set(least)
	pass := m.from(id)
	pass.Mul(pass, big.NewInt(m.tickets[id])).Div(pass, big.NewInt(int64(tickets)))
	m.tickets[id], m.pass[id] = int64(tickets), pass.Add(pass, base)
}

func (m model) pick() int {
	id, least := m.next()
	m.pass[id] = new(big.Int).Add(least, big.NewInt(api.Stride/m.tickets[id]))
	return id
}

func (m model) list() []stride.Client {
	var l []stride.Client
	for _, id := range m.ids() {
		l = append(l, c(id, int(m.tickets[id]), m.from(id).Int64()))
	}
	return l
}

// step does one thing to the group and to the model, and tells whether they answer alike.
func step(r *rand.Rand, g *stride.Group, m model) bool {
	id, tickets := r.Intn(12)-3, 1+r.Intn(16)
	remain := []int64{0, int64(api.Stride / tickets), r.Int63n(int64(api.Stride/tickets) + 1)}[r.Intn(3)]
	_, there := m.tickets[id]
	switch kind := r.Intn(8); {
	case kind < 2 && there:
		return g.Join(id, tickets, remain) == api.ErrExists
	case kind < 2:
		m.join(id, tickets, remain)
		return g.Join(id, tickets, remain) == api.OK
	case kind < 4 && !there:
		pass, err := g.Leave(id)
		return pass == 0 && err == api.ErrNone && g.Change(id, tickets) == api.ErrNone
	case kind == 2:
		pass, err := g.Leave(id)
		return pass == m.leave(id) && err == api.OK
	case kind == 3:
		m.change(id, tickets)
		return g.Change(id, tickets) == api.OK
	case len(m.tickets) == 0:
		_, err := g.Pick()
		return err == api.ErrNone
	case kind < 6:
		got, err := g.Pick()
		return got == m.pick() && err == api.OK
	}
	n := r.Intn(30)
	var want []int
	for range n {
		want = append(want, m.pick())
	}
	got, err := g.Run(n)
	return slices.Equal(got, want) && err == api.OK
}

func TestManyStepsAgainstTheModel(t *testing.T) {
	r := rand.New(rand.NewSource(9))
	for range 60 {
		g, m := stride.New(), model{map[int]int64{}, map[int]*big.Int{}}
		for at := range 200 {
			if !step(r, g, m) {
				t.Fatalf("P9.1, P9.2: step %d answers something else than the model", at)
			}
			holds(t, "by chance", g, m.list()...)
			if t.Failed() {
				t.FailNow()
			}
		}
	}
}

// inShare asks, of a run of quanta, whether what each client got differs from its share by at most the count of the others.
func inShare(t *testing.T, what string, clients []stride.Client, quanta []int) {
	t.Helper()
	all, got := 0, map[int]int{}
	for _, x := range clients {
		all += x.Tickets
	}
	for _, id := range quanta {
		got[id]++
	}
	for _, x := range clients {
		off := got[x.Id]*all - len(quanta)*x.Tickets // the difference, times all tickets
		if max(off, -off) > (len(clients)-1)*all {
			t.Errorf("P9.3: %s: of %d quanta %v got %d, with %d of %d tickets", what, len(quanta), x, got[x.Id], x.Tickets, all)
		}
	}
}

// Each piece of a long run counts, wherever it begins and ends.
func TestSharesOfLongRuns(t *testing.T) {
	r := rand.New(rand.NewSource(10))
	for range 60 {
		g := stride.New()
		for id := range 1 + r.Intn(9) {
			tickets := 1 + r.Intn(16)
			g.Join(id, tickets, r.Int63n(int64(api.Stride/tickets)+1))
		}
		for range r.Intn(4) { // how they came to where they are doesn't matter
			g.Run(r.Intn(50))
			g.Change(r.Intn(3), 1+r.Intn(16))
		}
		clients := g.List()
		quanta, err := g.Run(3000)
		if err != api.OK {
			t.Fatalf("P9.2: Run: %d", err)
		}
		sound(t, "a long run", g)
		for range 300 {
			from := r.Intn(len(quanta))
			to := from + r.Intn(len(quanta)-from+1)
			inShare(t, "a piece", clients, quanta[from:to])
		}
		for to := range 200 {
			inShare(t, "a beginning", clients, quanta[:to])
		}
		inShare(t, "all", clients, quanta)
		if t.Failed() {
			t.FailNow()
		}
	}
}

func TestSharesOfVeryLongRuns(t *testing.T) {
	for _, clients := range [][]stride.Client{
		{c(1, 1, 0)},
		{c(1, 1, 0), c(2, 16, 0)},
		{c(1, 1, 0), c(2, 16, 45045), c(3, 7, 102960), c(4, 11, 1), c(5, 13, 55440)},
	} {
		g := group(t, clients...)
		for range 3 {
			quanta, _ := g.Run(100000)
			inShare(t, "100000", clients, quanta)
			sound(t, "100000", g)
		}
	}
	g := full(t)
	quanta, _ := g.Run(100000)
	inShare(t, "MaxTasks clients", g.List(), quanta)
	sound(t, "MaxTasks clients", g)
}
