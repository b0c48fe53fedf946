package stride_test

import (
	"slices"
	"testing"

	"furlong/api"
	"furlong/stride"
)

// c is a client, as List tells it.
func c(id, tickets int, pass int64) stride.Client {
	return stride.Client{Id: id, Tickets: tickets, Pass: pass}
}

// group is a new one, in which these clients have joined in their order, each with its Pass.
func group(t *testing.T, clients ...stride.Client) *stride.Group {
	t.Helper()
	g := stride.New()
	for _, x := range clients {
		if err := g.Join(x.Id, x.Tickets, x.Pass); err != api.OK {
			t.Fatalf("P9.1: Join of %v: %d", x, err)
		}
	}
	return g
}

// full is a group of MaxTasks clients, Ids 0, 2, 4 and on.
func full(t *testing.T) *stride.Group {
	t.Helper()
	var l []stride.Client
	for i := range api.MaxTasks {
		l = append(l, c(2*i, 1+i%api.MaxTickets, 0))
	}
	return group(t, l...)
}

// holds asks for the clients, and for what holds behind every call: they rise by Id, the least pass is 0, none is above its stride.
func holds(t *testing.T, what string, g *stride.Group, want ...stride.Client) {
	t.Helper()
	for range 2 { // P2: the second time as the first time
		if got := g.List(); !slices.Equal(got, want) {
			t.Errorf("P9.1: List, %s = %v; want %v", what, got, want)
		}
	}
	sound(t, what, g)
}

func sound(t *testing.T, what string, g *stride.Group) {
	t.Helper()
	l := g.List()
	if len(l) == 0 {
		return
	}
	least := l[0].Pass
	for i, x := range l {
		least = min(least, x.Pass)
		if x.Pass < 0 || x.Pass > api.Stride/int64(x.Tickets) {
			t.Errorf("P9.3: %s: the pass of %v is outside 0 to its stride", what, x)
		}
		if i > 0 && l[i-1].Id >= x.Id {
			t.Errorf("P9.1: %s: List doesn't rise: %v", what, l)
		}
	}
	if least != 0 {
		t.Errorf("P9: %s: the least pass is %d", what, least)
	}
}

func runs(t *testing.T, what string, g *stride.Group, want ...int) {
	t.Helper()
	if got, err := g.Run(len(want)); !slices.Equal(got, want) || err != api.OK {
		t.Errorf("P9.2: Run(%d), %s = %v, %d; want %v", len(want), what, got, err, want)
	}
	sound(t, what, g)
}

func picks(t *testing.T, what string, g *stride.Group, want int) {
	t.Helper()
	if got, err := g.Pick(); got != want || err != api.OK {
		t.Errorf("P9.2: Pick, %s = %d, %d; want %d", what, got, err, want)
	}
	sound(t, what, g)
}
