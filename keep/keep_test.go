package keep_test

import (
	"math"
	"testing"

	"furlong/api"
	"furlong/disk"
	"furlong/keep"
)

func TestNewDisks(t *testing.T) {
	for _, blocks := range []int{1, 2, 3, 10, 100, 4000, api.MaxBlocks} {
		d := blank(t, blocks)
		k, err := keep.Open(d)
		if k == nil || err != api.OK {
			t.Fatalf("P16.1: Open of a new disk of %d blocks: %d", blocks, err)
		}
		base, term, snapshot := k.Base()
		if k.Term() != 0 || k.Voted() != -1 || base != 0 || term != 0 || len(snapshot) != 0 || k.Last() != 0 {
			t.Errorf("P16.1: of a new disk: Term %d, Voted %d, Base %d, %d, %v, Last %d", k.Term(), k.Voted(), base, term, snapshot, k.Last())
		}
		r := begin(t, blocks)
		r.sync()
		r.crash(0)
		r.crash(1000)
	}
}

func TestAsTheChapterTells(t *testing.T) {
	d := blank(t, 4000)
	k, _ := keep.Open(d)
	for _, err := range []api.Errno{k.Vote(1, 0), k.Put(1, 1, []byte("a")), k.Put(2, 1, []byte("b")), k.Sync(), k.Put(2, 2, []byte("c")), d.Crash(0)} {
		if err != api.OK {
			t.Fatalf("P16.1: a call of the chapter's example: %d", err)
		}
	}
	k, err := keep.Open(d)
	if err != api.OK {
		t.Fatalf("P16.2: Open behind a crash: %d", err)
	}
	for index, want := range []string{"a", "b"} {
		if term, data, err := k.Entry(index + 1); string(data) != want || err != api.OK || term < 1 {
			t.Errorf("P16.2: Entry(%d): %d, %q, %d; want %q", index+1, term, data, err, want)
		}
	}
	if k.Term() != 1 || k.Voted() != 0 || k.Last() != 2 {
		t.Errorf("P16.2: Term %d, Voted %d, Last %d; want 1, 0, 2", k.Term(), k.Voted(), k.Last())
	}
	if err := k.Reset(1, 1, []byte("s")); err != api.OK {
		t.Fatalf("P16.1: Reset: %d", err)
	}
	base, term, snapshot := k.Base()
	_, data, err := k.Entry(2)
	if base != 1 || term != 1 || string(snapshot) != "s" || string(data) != "b" || err != api.OK || k.Last() != 2 {
		t.Errorf("P16.1: behind Reset: Base %d, %d, %q, the entry 2 %q, %d, Last %d", base, term, snapshot, data, err, k.Last())
	}
}

// asks does one thing, holds it against the model, and against what is read anew.
func (r *run) asks(do func() bool) bool {
	r.t.Helper()
	ok := do()
	r.same("behind a call")
	r.open()
	return ok
}

func TestVote(t *testing.T) {
	r := begin(t, 4000)
	for _, c := range []struct {
		term, vote int
		ok         bool
	}{
		{-1, 0, false}, {math.MinInt, 0, false}, {0, -2, false}, {0, math.MinInt, false}, {0, -1, true}, {0, 0, true}, {0, 4, true}, {0, -1, true},
		{1, 0, true}, {0, 0, false}, {-1, -1, false}, {1, 1, true}, {1, -1, true}, {1, -2, false}, {3, 2, true}, {2, 2, false}, {2, -2, false},
		{448, 1, true}, {66000, 2, true}, {1 << 40, 3, true}, {1 << 40, math.MaxInt, true}, {math.MaxInt, -1, true}, {math.MaxInt - 1, -1, false}, {math.MaxInt, math.MaxInt, true}, {0, 0, false},
	} {
		if ok := r.asks(func() bool { return r.vote(c.term, c.vote) }); ok != c.ok {
			t.Errorf("P16.1: Vote(%d, %d) is taken: %v; want %v", c.term, c.vote, ok, c.ok)
		}
	}
	r.sync()
	r.crash(0)
}

// What an entry's term is hangs neither on Term nor on the other entries.
func TestPut(t *testing.T) {
	r := begin(t, 8000)
	r.vote(5, 1)
	for _, c := range []struct {
		index, term, count int
		ok                 bool
	}{
		{0, 1, 1, false}, {-1, 1, 1, false}, {2, 1, 1, false}, {math.MaxInt, 1, 1, false}, {math.MinInt, 1, 1, false}, {1, -1, 1, false}, {1, math.MinInt, 1, false}, {1, 1, 60001, false},
		{1, 1, 0, true}, {2, 9, 3, true}, {3, 0, 5, true}, {5, 1, 1, false}, {0, 1, 1, false}, {4, math.MaxInt, 60, true}, {5, 1 << 40, 200, true}, {6, 3, 447, true},
		{6, 3, 447, true}, {6, 4, 447, true}, {8, 4, 1, false}, {7, -1, 1, false}, {3, -1, 1, false}, {3, 1, 60001, false}, {3, 2, 60000, true},
		{5, 1, 1, false}, {4, 1, 448, true}, {1, 0, 7, true}, {3, 0, 7, false}, {2, 1, 1, true}, {1, 0, 0, true}, {1, 0, 0, true},
	} {
		if ok := r.asks(func() bool { return r.put(c.index, c.term, told(c.count, byte(c.term))) }); ok != c.ok {
			t.Errorf("P16.1: Put(%d, %d, %d bytes) is taken: %v; want %v", c.index, c.term, c.count, ok, c.ok)
		}
	}
	r.sync()
	r.crash(0)
}

// filled is a keep with the entries 1 to 9, of the terms 1, 1, 1, 2, 2, 2, 3, 3, 3.
func filled(t *testing.T) *run {
	t.Helper()
	r := begin(t, 40000)
	r.vote(4, 2)
	for n := range 9 {
		r.next(1+n/3, told(n*9, byte(n)))
	}
	return r
}

func TestReset(t *testing.T) {
	for _, c := range []struct {
		index, term, count int
		want               api.Errno
		last               int
	}{
		{0, 0, 1, api.ErrArg, 0}, {-1, 1, 1, api.ErrArg, 0}, {math.MinInt, 1, 1, api.ErrArg, 0}, {1, -1, 1, api.ErrArg, 0}, {5, math.MinInt, 1, api.ErrArg, 0},
		{maxIndex + 1, 1, 1, api.ErrArg, 0}, {math.MaxInt, 1, 1, api.ErrArg, 0}, {0, 0, maxSnapshot + 1, api.ErrArg, 0}, {3, -1, maxSnapshot + 1, api.ErrArg, 0}, {maxIndex + 1, 1, maxSnapshot + 1, api.ErrArg, 0},
		{3, 1, maxSnapshot + 1, api.ErrLong, 0}, {9, 3, 1 << 20, api.ErrLong, 0}, {100, 3, maxSnapshot + 1, api.ErrLong, 0},
		{1, 1, 0, api.OK, 9}, {1, 1, 100, api.OK, 9}, {3, 1, 5, api.OK, 9}, {4, 2, 5, api.OK, 9}, {8, 3, 1000, api.OK, 9}, {9, 3, 0, api.OK, 9}, {9, 3, maxSnapshot, api.OK, 9},
		{1, 0, 0, api.OK, 1}, {1, 2, 7, api.OK, 1}, {3, 2, 5, api.OK, 3}, {4, 1, 5, api.OK, 4}, {8, 4, 1000, api.OK, 8}, {9, 2, 0, api.OK, 9}, {9, math.MaxInt, 1, api.OK, 9},
		{10, 3, 0, api.OK, 10}, {11, 0, 64, api.OK, 11}, {maxIndex - 1, 3, 5, api.OK, maxIndex - 1}, {maxIndex, 3, maxSnapshot, api.OK, maxIndex}, {maxIndex, math.MaxInt, 0, api.OK, maxIndex},
	} {
		r := filled(t)
		if err := r.now().resetErr(c.index, c.term, told(c.count, 77)); err != c.want {
			t.Fatalf("the model answers %d to Reset(%d, %d, %d bytes); want %d", err, c.index, c.term, c.count, c.want)
		}
		r.asks(func() bool { return r.reset(c.index, c.term, told(c.count, 77)) })
		if c.want == api.OK && r.k.Last() != c.last {
			t.Errorf("P16.1: Reset(%d, %d): Last %d; want %d", c.index, c.term, r.k.Last(), c.last)
		}
		r.crash(0) // all is safe then
		r.next(4, []byte("more"))
		r.put(r.now().base, 4, nil)
		r.put(r.now().base+1, 5, told(9, 9))
		r.vote(4, 0)
		r.sync()
		r.reset(r.now().base, 4, nil)
		r.reset(r.now().base+1, 5, nil)
		r.crash(1000)
	}
}

// One Reset behind the other; what is behind the last one's index stays each time.
func TestManyResets(t *testing.T) {
	r := begin(t, 2000)
	for turn := range 200 {
		r.next(turn/7, told(turn%90, byte(turn)))
		r.next(turn/7, nil)
		if turn%3 == 1 {
			r.vote(turn, turn%5-1)
		}
		m := r.now()
		index := m.base + 1 + turn%2*(len(m.entries)-1)/2
		r.reset(index, m.entries[index-m.base-1].term+turn%29/28, told(turn, 3))
		if turn%4 == 0 {
			r.crash(turn % 5)
		}
		r.same("behind many Resets")
	}
}

// At the greatest index entries go on behind it, and no further Reset is taken.
func TestGreatestIndex(t *testing.T) {
	r := begin(t, 2000)
	r.reset(maxIndex, 3, []byte("s"))
	for n := range 5 {
		r.asks(func() bool { return r.next(n, told(n, 1)) })
	}
	r.asks(func() bool { return r.put(maxIndex+3, 9, told(3, 3)) })
	for _, index := range []int{maxIndex - 1, maxIndex, maxIndex + 1, maxIndex + 3, math.MaxInt} {
		if r.reset(index, 9, nil) {
			t.Errorf("errors: Reset(2^60 %+d) is taken", index-maxIndex)
		}
	}
	r.sync()
	r.crash(0)
}

func TestNil(t *testing.T) {
	if k, err := keep.Open(nil); k != nil || err != api.ErrNil {
		t.Errorf("errors: Open of a nil disk: %v, %d", k, err)
	}
	var k *keep.Keep
	for _, x := range []int{-1, 0, 1, math.MinInt, math.MaxInt} {
		for what, err := range map[string]api.Errno{
			"Vote": k.Vote(x, x), "Put": k.Put(x, x, nil), "a long Put": k.Put(1, 1, make([]byte, maxData+1)), "Reset": k.Reset(x, x, nil), "a long Reset": k.Reset(1, 1, make([]byte, maxSnapshot+1)), "Sync": k.Sync(),
		} {
			if err != api.ErrNil {
				t.Errorf("Nil: %s: %d", what, err)
			}
		}
		if term, data, err := k.Entry(x); term != 0 || len(data) != 0 || err != api.ErrNil {
			t.Errorf("Nil: Entry: %d, %v, %d", term, data, err)
		}
	}
	base, term, snapshot := k.Base()
	if k.Term() != 0 || k.Voted() != 0 || k.Last() != 0 || base != 0 || term != 0 || len(snapshot) != 0 {
		t.Errorf("Nil: Term %d, Voted %d, Last %d, Base %d, %d, %v", k.Term(), k.Voted(), k.Last(), base, term, snapshot)
	}
}

// P1 holds for a keep that doesn't come from Open, and on a disk that doesn't come from New, too.
func TestNotFromOpen(t *testing.T) {
	odd, _ := keep.Open(new(disk.Disk))
	for _, k := range []*keep.Keep{new(keep.Keep), odd} {
		for n := range 3 {
			k.Vote(n, n)
			k.Put(1, 1, told(100, 1))
			k.Put(n, n, nil)
			k.Entry(1)
			k.Reset(n, n, told(100, 1))
			k.Reset(1+n, n, nil)
			k.Base()
			k.Term()
			k.Voted()
			k.Last()
			k.Sync()
		}
	}
}

// What one keep is told another one doesn't know.
func TestTwoKeepsStandAlone(t *testing.T) {
	a, b := begin(t, 2000), begin(t, 2000)
	for n := range 30 {
		a.next(n, told(n, 1))
		b.next(n, told(2*n, 2))
		b.vote(n, n%3)
		if n%10 == 9 {
			a.reset(n, n-1, told(n, 4))
			b.sync()
		}
		a.same("beside another keep")
		b.same("beside another keep")
	}
	a.crash(0)
	b.same("beside another keep's crash")
	b.crash(1)
	a.open()
}
