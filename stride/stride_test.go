package stride_test

import (
	"math"
	"slices"
	"testing"

	"furlong/api"
	"furlong/stride"
)

func TestChapterExample(t *testing.T) {
	g := group(t, c(1, 1, 0), c(2, 2, 0))
	runs(t, "example 1", g, 1, 2, 2, 1, 2, 2)
	if pass, err := g.Leave(1); pass != 0 || err != api.OK {
		t.Errorf("P9.1: Leave(1), example 1 = %d, %d; want 0", pass, err)
	}
	if err := g.Join(1, 17, 0); err != api.ErrArg {
		t.Errorf("P9.1: Join(1, 17, 0), example 1: %d", err)
	}
	holds(t, "example 1", g, c(2, 2, 0))
}

func TestNobody(t *testing.T) {
	g := stride.New()
	holds(t, "a new group", g)
	if id, err := g.Pick(); id != 0 || err != api.ErrNone {
		t.Errorf("P9.2: Pick of nobody = %d, %d", id, err)
	}
	if l, err := g.Run(0); len(l) != 0 || err != api.OK {
		t.Errorf("P9.2: Run(0) of nobody = %v, %d", l, err)
	}
	if l, err := g.Run(1); len(l) != 0 || err != api.ErrNone {
		t.Errorf("P9.2: Run(1) of nobody = %v, %d", l, err)
	}
	group(t, c(1, 1, 0))
	holds(t, "two groups have nothing in common", g)
	g.Join(5, 1, 0)
	g.Leave(5)
	holds(t, "all have left", g)
	if _, err := g.Pick(); err != api.ErrNone {
		t.Errorf("P9.2: Pick, all have left: %d", err)
	}
}

func TestOneClient(t *testing.T) {
	for tickets := 1; tickets <= api.MaxTickets; tickets++ {
		whole := int64(api.Stride / tickets)
		for _, remain := range []int64{0, 1, whole} {
			g := group(t, c(7, tickets, remain))
			holds(t, "alone it is the least far", g, c(7, tickets, 0))
			picks(t, "alone", g, 7)
			runs(t, "alone", g, 7, 7, 7, 7, 7)
			holds(t, "alone, behind quanta", g, c(7, tickets, 0))
			if pass, err := g.Leave(7); pass != 0 || err != api.OK {
				t.Errorf("P9.1: Leave of one alone = %d, %d", pass, err)
			}
			holds(t, "gone", g)
		}
	}
}

func TestJoin(t *testing.T) {
	g := group(t, c(5, 1, 0))
	g.Join(3, 2, 100)
	holds(t, "one joins ahead", g, c(3, 2, 100), c(5, 1, 0))
	g.Join(9, 16, 45045)
	holds(t, "one joins behind, with its whole stride", g, c(3, 2, 100), c(5, 1, 0), c(9, 16, 45045))
	g.Join(4, 1, 720720)
	holds(t, "one joins between", g, c(3, 2, 100), c(4, 1, 720720), c(5, 1, 0), c(9, 16, 45045))
	g.Join(math.MinInt, 1, 0)
	g.Join(math.MaxInt, 1, 7)
	g.Join(-1, 1, 8)
	g.Join(0, 1, 9)
	holds(t, "any Id", g, c(math.MinInt, 1, 0), c(-1, 1, 8), c(0, 1, 9), c(3, 2, 100), c(4, 1, 720720), c(5, 1, 0), c(9, 16, 45045), c(math.MaxInt, 1, 7))
	runs(t, "any Id", g, math.MinInt, 5, math.MaxInt, -1, 0, 3)
}

// Whoever comes first is the one from whom the others are counted, whatever remained to it.
func TestJoinIsCountedFromTheLeast(t *testing.T) {
	holds(t, "the first one brings a pass", group(t, c(1, 1, 500), c(2, 1, 300)), c(1, 1, 0), c(2, 1, 300))
	holds(t, "two bring the same pass", group(t, c(1, 2, 360360), c(2, 2, 360360)), c(1, 2, 0), c(2, 2, 360360))
}

func TestJoinEdges(t *testing.T) {
	for tickets := 1; tickets <= api.MaxTickets; tickets++ {
		whole := int64(api.Stride / tickets)
		holds(t, "remain is the stride", group(t, c(1, 1, 0), c(2, tickets, whole)), c(1, 1, 0), c(2, tickets, whole))
		holds(t, "remain is 0", group(t, c(1, 1, 0), c(2, tickets, 0)), c(1, 1, 0), c(2, tickets, 0))
		for _, remain := range []int64{-1, whole + 1, math.MinInt64, math.MaxInt64} {
			g := group(t, c(1, 1, 0), c(5, 1, 9))
			if err := g.Join(2, tickets, remain); err != api.ErrArg {
				t.Errorf("P9.1: Join(2, %d, %d): %d; want ErrArg", tickets, remain, err)
			}
			holds(t, "refused", g, c(1, 1, 0), c(5, 1, 9))
		}
	}
}

func TestLeave(t *testing.T) {
	g := group(t, c(1, 1, 0), c(2, 1, 30), c(3, 1, 50), c(4, 1, 90))
	leaves := func(id int, pass int64, rest ...stride.Client) {
		t.Helper()
		if got, err := g.Leave(id); got != pass || err != api.OK {
			t.Errorf("P9.1: Leave(%d) = %d, %d; want %d", id, got, err, pass)
		}
		holds(t, "one has left", g, rest...)
	}
	leaves(3, 50, c(1, 1, 0), c(2, 1, 30), c(4, 1, 90))
	leaves(1, 0, c(2, 1, 0), c(4, 1, 60))
	leaves(4, 60, c(2, 1, 0))
	leaves(2, 0)
	g.Join(4, 2, 60)
	holds(t, "one is back", g, c(4, 2, 0))
}

func TestWhatRemainsIsTakenAlong(t *testing.T) {
	g := group(t, c(1, 1, 0), c(2, 3, 0))
	runs(t, "ahead of leaving", g, 1, 2)
	pass, _ := g.Leave(1)
	if pass != 720720-240240 {
		t.Errorf("P9.1: Leave(1) = %d; want %d", pass, 720720-240240)
	}
	g.Join(1, 1, pass)
	holds(t, "back with what remained", g, c(1, 1, 480480), c(2, 3, 0))
	runs(t, "back with what remained", g, 2, 2, 1)
}

func TestChange(t *testing.T) {
	for _, x := range []struct {
		name         string
		old, tickets int
		pass, want   int64
	}{
		{"twice the tickets", 1, 2, 720720, 360360},
		{"half of the tickets", 2, 1, 360360, 720720},
		{"from 1 to 16", 1, 16, 720720, 45045},
		{"from 16 to 1", 16, 1, 45045, 720720},
		{"from 16 to 15", 16, 15, 45045, 48048},
		{"the same", 7, 7, 12345, 12345},
		{"not even: down", 1, 2, 5, 2},
		{"not even: down to 0", 1, 16, 15, 0},
		{"not even: just 1", 1, 16, 16, 1},
		{"not even: just below 2", 1, 16, 31, 1},
		{"not even, of several tickets", 3, 7, 100, 42},
		{"not even, more than before", 7, 3, 100, 233},
		{"a pass of 0", 5, 3, 0, 0},
		{"a pass of 1", 16, 1, 1, 16},
	} {
		for _, id := range []int{1, 9} {
			g := group(t, c(5, 1, 0), c(id, x.old, x.pass))
			if err := g.Change(id, x.tickets); err != api.OK {
				t.Errorf("P9.1: Change, %s: %d", x.name, err)
			}
			want := []stride.Client{c(id, x.tickets, x.want), c(5, 1, 0)}
			if id == 9 {
				slices.Reverse(want)
			}
			holds(t, "Change, "+x.name, g, want...)
		}
	}
}

func TestChangeIsCountedFromTheLeast(t *testing.T) {
	g := group(t, c(1, 1, 0), c(2, 2, 100), c(3, 1, 30))
	g.Leave(1)
	holds(t, "the first one has left", g, c(2, 2, 70), c(3, 1, 0))
	g.Change(3, 16)
	holds(t, "the least far one changes", g, c(2, 2, 70), c(3, 16, 0))
	g.Change(2, 16)
	holds(t, "one that isn't changes", g, c(2, 16, 8), c(3, 16, 0))
	runs(t, "behind changes", g, 3, 2, 3, 2)
}

func TestQuanta(t *testing.T) {
	runs(t, "the same tickets", group(t, c(3, 1, 0), c(1, 1, 0), c(2, 1, 0)), 1, 2, 3, 1, 2, 3, 1)
	runs(t, "equal passes: the least Id, not who came first", group(t, c(9, 2, 0), c(-4, 2, 0)), -4, 9, -4, 9)
	runs(t, "1, 2 and 3 tickets", group(t, c(1, 1, 0), c(2, 2, 0), c(3, 3, 0)), 1, 2, 3, 3, 2, 3, 1, 2, 3, 3, 2, 3)
	runs(t, "1 and 16 tickets", group(t, c(1, 1, 0), c(2, 16, 0)), append([]int{1}, append(slices.Repeat([]int{2}, 16), 1, 2)...)...)
	runs(t, "whoever is least far", group(t, c(1, 1, 0), c(2, 1, 200), c(3, 1, 100)), 1, 3, 2, 1, 3, 2)
	runs(t, "a pass is the stride: alike behind one quantum", group(t, c(2, 1, 0), c(1, 1, 720720)), 2, 1, 2, 1)
	runs(t, "nothing", group(t, c(1, 1, 0)))
}

func TestPassesBehindQuanta(t *testing.T) {
	g := group(t, c(1, 2, 0), c(2, 3, 0))
	picks(t, "first", g, 1)
	holds(t, "first", g, c(1, 2, 360360), c(2, 3, 0))
	picks(t, "second", g, 2)
	holds(t, "second", g, c(1, 2, 360360-240240), c(2, 3, 0))
	picks(t, "third", g, 2)
	holds(t, "third", g, c(1, 2, 0), c(2, 3, 120120))
	picks(t, "fourth", g, 1)
	holds(t, "fourth", g, c(1, 2, 240240), c(2, 3, 0))
	picks(t, "fifth", g, 2)
	holds(t, "all as at first", g, c(1, 2, 0), c(2, 3, 0))
}

func TestRunIsPicks(t *testing.T) {
	for n := range 40 {
		clients := []stride.Client{c(1, 5, 0), c(2, 16, 45045), c(3, 1, 3), c(8, 11, 65520), c(9, 7, 1)}
		a, b := group(t, clients...), group(t, clients...)
		var want []int
		for range n {
			id, _ := b.Pick()
			want = append(want, id)
		}
		runs(t, "against Picks", a, want...)
		if !slices.Equal(a.List(), b.List()) {
			t.Errorf("P9.2: Run(%d) leaves %v, so many Picks %v", n, a.List(), b.List())
		}
	}
}

func TestRunEnds(t *testing.T) {
	g := group(t, c(1, 1, 0), c(2, 2, 0))
	if l, err := g.Run(0); len(l) != 0 || err != api.OK {
		t.Errorf("P9.2: Run(0) = %v, %d", l, err)
	}
	holds(t, "Run(0)", g, c(1, 1, 0), c(2, 2, 0))
	l, err := g.Run(100000)
	if len(l) != 100000 || err != api.OK {
		t.Errorf("P9.2: Run(100000): %d quanta, %d", len(l), err)
	}
	for i, id := range l {
		if id != []int{1, 2, 2}[i%3] {
			t.Fatalf("P9.2: Run(100000): quantum %d is that of %d", i, id)
		}
	}
	holds(t, "Run(100000)", g, c(1, 1, 720720), c(2, 2, 0))
	for _, n := range []int{-1, 100001, math.MinInt, math.MaxInt} {
		if l, err := g.Run(n); len(l) != 0 || err != api.ErrArg {
			t.Errorf("P9.2: Run(%d) = %v, %d; want ErrArg", n, l, err)
		}
		if l, err := stride.New().Run(n); len(l) != 0 || err != api.ErrArg {
			t.Errorf("P9.2: Run(%d) of nobody = %v, %d; want ErrArg", n, l, err)
		}
	}
	holds(t, "refused", g, c(1, 1, 720720), c(2, 2, 0))
	if l, err := stride.New().Run(100000); len(l) != 0 || err != api.ErrNone {
		t.Errorf("P9.2: Run(100000) of nobody = %v, %d; want ErrNone", l, err)
	}
}

func TestFull(t *testing.T) {
	g := full(t)
	old := g.List()
	if len(old) != api.MaxTasks {
		t.Fatalf("P9.1: %d clients; want %d", len(old), api.MaxTasks)
	}
	if err := g.Join(1, 1, 0); err != api.ErrFull {
		t.Errorf("P9.1: Join, one more than MaxTasks: %d; want ErrFull", err)
	}
	if err := g.Join(1, 17, 0); err != api.ErrArg {
		t.Errorf("P9.1: Join, one more, with wrong tickets: %d; want ErrArg", err)
	}
	if err := g.Join(1, 1, -1); err != api.ErrArg {
		t.Errorf("P9.1: Join, one more, with a wrong remain: %d; want ErrArg", err)
	}
	if err := g.Join(2, 17, -1); err != api.ErrExists {
		t.Errorf("P9.1: Join, one that is there, and all else wrong: %d; want ErrExists", err)
	}
	if !slices.Equal(g.List(), old) {
		t.Errorf("P9.1: Join changes a full group")
	}
	var first []int
	for _, x := range old {
		first = append(first, x.Id)
	}
	runs(t, "all once", g, first...)
	g.Leave(2046)
	if err := g.Join(1, 1, 0); err != api.OK {
		t.Errorf("P9.1: Join, one has left: %d", err)
	}
	if err := g.Join(3, 1, 0); err != api.ErrFull {
		t.Errorf("P9.1: Join, full again: %d", err)
	}
}
