package stride_test

import (
	"math"
	"testing"

	"furlong/api"
	"furlong/stride"
)

var wrongTickets = []int{0, -1, 17, math.MinInt, math.MaxInt}

func TestNil(t *testing.T) {
	var g *stride.Group
	for _, tickets := range append(wrongTickets, 1) {
		for _, remain := range []int64{0, -1, math.MaxInt64} {
			if err := g.Join(1, tickets, remain); err != api.ErrNil {
				t.Errorf("Nil: Join: %d", err)
			}
		}
		if err := g.Change(1, tickets); err != api.ErrNil {
			t.Errorf("Nil: Change: %d", err)
		}
	}
	if pass, err := g.Leave(1); pass != 0 || err != api.ErrNil {
		t.Errorf("Nil: Leave = %d, %d", pass, err)
	}
	if id, err := g.Pick(); id != 0 || err != api.ErrNil {
		t.Errorf("Nil: Pick = %d, %d", id, err)
	}
	for _, n := range []int{0, 1, -1, 100001} {
		if l, err := g.Run(n); len(l) != 0 || err != api.ErrNil {
			t.Errorf("Nil: Run(%d) = %v, %d", n, l, err)
		}
	}
	if l := g.List(); len(l) != 0 {
		t.Errorf("Nil: List = %v", l)
	}
}

// P1 holds for a group that doesn't come from New, too.
func TestNotFromNew(t *testing.T) {
	for range 2 {
		g := new(stride.Group)
		g.List()
		g.Pick()
		g.Run(3)
		g.Leave(1)
		g.Change(1, 1)
		g.Join(1, 1, 1)
		g.Pick()
	}
}

func TestErrorsAndTheirOrder(t *testing.T) {
	clients := []stride.Client{c(1, 1, 0), c(2, 4, 77)}
	g := group(t, clients...)
	for _, tickets := range wrongTickets {
		for _, remain := range []int64{0, -1, 1, math.MinInt64, math.MaxInt64} {
			if err := g.Join(3, tickets, remain); err != api.ErrArg {
				t.Errorf("errors: Join(3, %d, %d): %d; want ErrArg", tickets, remain, err)
			}
			if err := g.Join(2, tickets, remain); err != api.ErrExists {
				t.Errorf("errors: Join(2, %d, %d): %d; want ErrExists", tickets, remain, err)
			}
		}
		if err := g.Change(2, tickets); err != api.ErrArg {
			t.Errorf("errors: Change(2, %d): %d; want ErrArg", tickets, err)
		}
		if err := g.Change(3, tickets); err != api.ErrNone {
			t.Errorf("errors: Change(3, %d): %d; want ErrNone", tickets, err)
		}
	}
	if err := g.Join(1, 1, 0); err != api.ErrExists {
		t.Errorf("errors: Join(1, 1, 0): %d; want ErrExists", err)
	}
	if err := g.Change(3, 1); err != api.ErrNone {
		t.Errorf("errors: Change(3, 1): %d; want ErrNone", err)
	}
	for _, id := range []int{0, 3, -1, math.MinInt, math.MaxInt} {
		if pass, err := g.Leave(id); pass != 0 || err != api.ErrNone {
			t.Errorf("errors: Leave(%d) = %d, %d; want ErrNone", id, pass, err)
		}
	}
	holds(t, "errors change nothing", g, clients...)
	runs(t, "errors change nothing", g, 1, 2, 2, 2, 2, 1)
}

func TestErrorsOfNobody(t *testing.T) {
	g := stride.New()
	if pass, err := g.Leave(0); pass != 0 || err != api.ErrNone {
		t.Errorf("errors: Leave of nobody = %d, %d", pass, err)
	}
	if err := g.Change(0, 1); err != api.ErrNone {
		t.Errorf("errors: Change of nobody: %d", err)
	}
	for _, tickets := range wrongTickets {
		if err := g.Join(0, tickets, 0); err != api.ErrArg {
			t.Errorf("errors: Join(0, %d, 0) to nobody: %d", tickets, err)
		}
	}
	holds(t, "errors of nobody", g)
}
