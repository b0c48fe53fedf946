package store_test

import (
	"math"
	"testing"

	"furlong/api"
	"furlong/disk"
	"furlong/store"
)

func TestNewDisks(t *testing.T) {
	for _, blocks := range []int{1, 2, 3, 4, 5, 20, 64, 1000, api.MaxBlocks} {
		r := begin(t, blocks)
		r.crash(0)
		r.crash(1000)
		r.sync()
		r.open()
	}
}

func TestAsTheChapterTells(t *testing.T) {
	for keep := range 5 {
		r := begin(t, 1000)
		r.append([]byte("a"))
		r.sync()
		r.append([]byte("b"))
		r.crash(keep)
		r.checkpoint([]byte("x"))
		r.append([]byte("c"))
		r.crash(1000)
		if len(r.records) != 1 {
			t.Errorf("P15: Open finds %d records behind x; want c", len(r.records))
		}
	}
}

// Each length stands alone, and then all of them one behind the other.
func TestRecordsOfEachLength(t *testing.T) {
	lengths := []int{0, 1, 2, 191, 192, 447, 448, 449, 1000, 4096, 65535, 65536}
	for n := range 140 {
		lengths = append(lengths, n)
	}
	all := begin(t, api.MaxBlocks)
	for _, n := range lengths {
		p := told(n, byte(n))
		r := begin(t, 16*(n/64+200))
		r.append(p)
		r.open()
		r.append(nil)
		r.append(p)
		r.sync()
		r.crash(0)
		r.checkpoint(p)
		r.append(p)
		r.crash(math.MaxInt)
		if n < 65535 {
			all.append(p)
		}
	}
	all.append(told(65536, 1))
	all.open()
	all.append(told(65536, 2))
	all.append(nil)
	all.crash(math.MaxInt)
}

func TestSafeAndLen(t *testing.T) {
	r := begin(t, 2000)
	for n := range 30 {
		r.append(told(11*n, byte(n)))
		if n%3 == 1 {
			r.sync()
		}
		if n%10 == 9 {
			r.checkpoint(told(n, 200))
		}
		if n%7 == 6 {
			r.open() // of those that it found all are safe
			r.crash(0)
		}
	}
}

// What Open has found is safe, though nobody has synced it.
func TestWhatIsFoundIsSafe(t *testing.T) {
	r := begin(t, 300)
	r.append(told(100, 1))
	r.append(told(10, 2))
	r.open()
	r.append(told(100, 3))
	r.crash(0)
	if len(r.records) != 2 {
		t.Errorf("P15.2: of two records that were found %d are there behind a crash", len(r.records))
	}
}

func TestCheckpointIsSafeAtOnce(t *testing.T) {
	for _, n := range []int{0, 1, 45, 64, 300, 5000} {
		for _, synced := range []bool{false, true} {
			r := begin(t, 2000)
			r.append(told(n, 1))
			r.append(told(70, 2))
			if synced {
				r.sync()
			}
			r.checkpoint(told(n, 3))
			r.crash(0)
			r.checkpoint(told(2*n, 4))
			r.checkpoint(told(n, 5))
			r.crash(0)
			r.append(told(n, 6))
			r.crash(0)
			r.append(told(n, 7))
			r.checkpoint(nil)
			r.crash(0)
			if !r.whole || len(r.snapshot) != 0 {
				t.Errorf("P15.2: a snapshot of no bytes is none")
			}
		}
	}
}

func TestSnapshotsOfManyLengths(t *testing.T) {
	most := api.MaxBytes / 2
	for _, n := range []int{0, 1, 2, 40, 63, 64, 65, 191, 192, 448, 65535, 65536, 65537, 65728, most - 1, most} {
		r := begin(t, api.MaxBlocks)
		r.append(told(5, 5))
		r.checkpoint(told(n, byte(n)))
		r.append(told(65, 1))
		r.open()
		r.append(told(6, 1))
		r.crash(math.MaxInt)
		r.checkpoint(told(n, byte(n+1)))
		r.crash(0)
	}
}

func TestTooLong(t *testing.T) {
	for _, blocks := range []int{1, 2, 20, 100, api.MaxBlocks} { // ErrLong comes ahead of ErrFull
		r := begin(t, blocks)
		for again := range 3 {
			loose := r.d.Loose()
			for _, n := range []int{65537, 65538, 131072, api.MaxBytes + 1} {
				if err := r.s.Append(told(n, 1)); err != api.ErrLong {
					t.Errorf("errors: Append of %d bytes: %d; want ErrLong", n, err)
				}
				r.same("an Append that is too long", loose)
			}
			for _, n := range []int{api.MaxBytes/2 + 1, api.MaxBytes, api.MaxBytes + 1} {
				if err := r.s.Checkpoint(told(n, 1)); err != api.ErrLong {
					t.Errorf("errors: Checkpoint of %d bytes: %d; want ErrLong", n, err)
				}
				r.same("a Checkpoint that is too long", loose)
			}
			r.tries(told(again, 7))
		}
		r.open()
	}
}

func TestNil(t *testing.T) {
	for range 2 {
		if s, f, err := store.Open(nil); s != nil || f.Whole || len(f.Snapshot) != 0 || len(f.Records) != 0 || err != api.ErrNil {
			t.Errorf("Nil: Open = %v, %v, %d; want ErrNil", s, f, err)
		}
	}
	var s *store.Store
	for _, p := range [][]byte{nil, {1}, told(65537, 1), told(api.MaxBytes, 1)} {
		if err := s.Append(p); err != api.ErrNil {
			t.Errorf("Nil: Append: %d", err)
		}
		if err := s.Checkpoint(p); err != api.ErrNil {
			t.Errorf("Nil: Checkpoint: %d", err)
		}
	}
	if err := s.Sync(); err != api.ErrNil {
		t.Errorf("Nil: Sync: %d", err)
	}
	if s.Len() != 0 || s.Safe() != 0 {
		t.Errorf("Nil: Len %d, Safe %d", s.Len(), s.Safe())
	}
}

// P1 holds for a store that doesn't come from Open, and on a disk that doesn't come from New, too.
func TestNotFromOpen(t *testing.T) {
	odd, _, _ := store.Open(new(disk.Disk))
	for _, s := range []*store.Store{new(store.Store), odd} {
		for range 2 {
			s.Append(nil)
			s.Append(told(100, 1))
			s.Len()
			s.Safe()
			s.Checkpoint(nil)
			s.Checkpoint(told(100, 1))
			s.Sync()
		}
	}
}

// What one store is told another one doesn't know.
func TestTwoStoresStandAlone(t *testing.T) {
	a, b := begin(t, 500), begin(t, 500)
	for n := range 20 {
		a.append(told(30*n, 1))
		b.append(told(20*n, 2))
		if n%4 == 1 {
			a.sync()
		}
		if n%5 == 4 {
			b.checkpoint(told(n, 3))
		}
		b.counts("beside another store")
	}
	a.crash(0)
	b.crash(7)
	a.open()
}
