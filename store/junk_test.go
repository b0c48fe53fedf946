package store_test

import (
	"math"
	"math/rand"
	"testing"

	"furlong/api"
	"furlong/disk"
	"furlong/store"
)

// goesOn opens a store on whatever stands on a disk, and does this and that: no call panics, and none answers another error than those of its chapter.
func goesOn(t *testing.T, r *rand.Rand, d *disk.Disk) {
	t.Helper()
	for range 3 {
		s, f, err := store.Open(d)
		if s == nil || err != api.OK {
			t.Fatalf("P15.1: Open of a disk on which anything stands: %d", err)
		}
		if s.Len() != len(f.Records) || s.Safe() != len(f.Records) {
			t.Fatalf("P15.2: Open finds %d records, Len is %d, Safe %d", len(f.Records), s.Len(), s.Safe())
		}
		if !f.Whole && len(f.Snapshot) > 0 {
			t.Fatalf("P15.1: Open finds a snapshot, where there is none")
		}
		for range 8 {
			some := told(r.Intn(500), byte(r.Intn(256)))
			for _, err := range []api.Errno{s.Append(some), s.Append(nil), s.Sync(), s.Append(some)} {
				if err != api.OK && err != api.ErrFull {
					t.Fatalf("errors: a call on a disk on which anything stands: %d", err)
				}
			}
			if r.Intn(3) == 0 {
				s.Checkpoint(some)
			}
			s.Len()
			s.Safe()
		}
		d.Crash(r.Intn(d.Loose() + 2))
	}
}

// fillBy writes each block of a disk.
func fillBy(d *disk.Disk, block func(n int) []byte) *disk.Disk {
	for n := range d.Blocks() {
		d.Write(n, block(n))
	}
	return d
}

func TestBytesByChance(t *testing.T) {
	r := rand.New(rand.NewSource(1))
	for range 300 {
		goesOn(t, r, fillBy(blank(t, 1+r.Intn(200)), func(int) []byte {
			p := make([]byte, api.BlockSize)
			r.Read(p)
			return p
		}))
	}
}

func TestTheSameByteEverywhere(t *testing.T) {
	r := rand.New(rand.NewSource(2))
	for x := range 256 {
		for _, blocks := range []int{1, 2, 3, 4, 50, 130} {
			goesOn(t, r, fillBy(blank(t, blocks), func(int) []byte { return fill(api.BlockSize, byte(x)) }))
		}
	}
	goesOn(t, r, fillBy(blank(t, api.MaxBlocks), func(int) []byte { return fill(api.BlockSize, 0xff) }))
}

// used is a disk on which a store has lived.
func used(t *testing.T, r *rand.Rand, blocks int) *disk.Disk {
	t.Helper()
	d := blank(t, blocks)
	for range 1 + r.Intn(3) {
		s, _, _ := store.Open(d)
		for range r.Intn(40) {
			s.Append(told(r.Intn(200), byte(r.Intn(256))))
			if r.Intn(9) == 0 {
				s.Checkpoint(told(r.Intn(300), 3))
			}
			if r.Intn(4) == 0 {
				s.Sync()
			}
		}
		d.Crash(r.Intn(d.Loose() + 1))
	}
	return d
}

// Blocks of stores, each of them at its place or at another one, some with bytes that are changed.
func TestBlocksOfStores(t *testing.T) {
	r := rand.New(rand.NewSource(3))
	for turn := range 600 {
		blocks := 60 + r.Intn(200)
		from := []*disk.Disk{used(t, r, blocks), used(t, r, blocks), used(t, r, 1+r.Intn(2*blocks))}
		goesOn(t, r, fillBy(blank(t, blocks), func(n int) []byte {
			if r.Intn(12) == 0 && turn%2 == 0 {
				n = r.Intn(blocks)
			}
			p, _ := from[r.Intn(1+turn%3)].Read(n)
			if r.Intn(30) == 0 && len(p) > 0 {
				p[r.Intn(len(p))] ^= byte(1 << r.Intn(8))
			}
			return p
		}))
	}
}

// One block is changed under a store that goes on, and that is opened anew.
func TestABlockIsChanged(t *testing.T) {
	r := rand.New(rand.NewSource(4))
	for range 400 {
		d := used(t, r, 100)
		s, _, _ := store.Open(d)
		n := r.Intn(100)
		p, _ := d.Read(n)
		p[r.Intn(api.BlockSize)] = byte(r.Intn(256))
		d.Write(n, p)
		s.Append(told(100, 1))
		s.Checkpoint(told(100, 1))
		s.Append(told(100, 1))
		goesOn(t, r, d)
	}
}

// Nobody tells a store that its disk has crashed: it needn't know what is there, but goes on without panic.
func TestAStoreThatIsNotOpenedAnew(t *testing.T) {
	r := rand.New(rand.NewSource(5))
	for range 200 {
		d := used(t, r, 150)
		s, _, _ := store.Open(d)
		for range 20 {
			s.Append(told(r.Intn(300), 1))
			d.Crash([]int{0, 1, math.MaxInt}[r.Intn(3)])
			if r.Intn(5) == 0 {
				s.Checkpoint(told(r.Intn(300), 2))
			}
		}
		goesOn(t, r, d)
	}
}
