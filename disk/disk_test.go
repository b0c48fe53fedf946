package disk_test

import (
	"math"
	"testing"

	"furlong/api"
	"furlong/disk"
)

func TestNew(t *testing.T) {
	for _, blocks := range []int{1, 2, 3, 64, 1000, api.MaxBlocks - 1, api.MaxBlocks} {
		d := made(t, blocks)
		if d.Blocks() != blocks {
			t.Errorf("P14.1: Blocks of New(%d) = %d", blocks, d.Blocks())
		}
		loose(t, "of a new disk", d, 0)
		for n := range blocks {
			reads(t, "of a new disk", d, n)
		}
	}
}

func TestNewOfWrongCounts(t *testing.T) {
	for _, blocks := range []int{0, -1, -65536, math.MinInt, api.MaxBlocks + 1, api.MaxBlocks * 2, math.MaxInt} {
		if d, err := disk.New(blocks); d != nil || err != api.ErrArg {
			t.Errorf("errors: New(%d) = %v, %d; want nil, ErrArg", blocks, d, err)
		}
	}
}

func TestWriteOfEachLength(t *testing.T) {
	for _, blocks := range []int{1, 2, 5, api.MaxBlocks} {
		for _, n := range []int{0, blocks / 2, blocks - 1} {
			d := made(t, blocks)
			for count := range api.BlockSize + 1 {
				p := filled(count, byte(count))
				writes(t, d, n, p...)
				reads(t, "behind a Write", d, n, p...)
				loose(t, "behind Writes", d, count+1)
			}
		}
	}
}

func TestNoughtsBehindAShorterWrite(t *testing.T) {
	for count := range api.BlockSize + 1 {
		d := made(t, 3)
		writes(t, d, 1, filled(api.BlockSize, 7)...)
		if count%2 == 0 {
			syncs(t, d)
		}
		writes(t, d, 1, filled(count, 99)...)
		reads(t, "behind a shorter Write", d, 1, filled(count, 99)...)
		crashes(t, d, 2)
		reads(t, "behind a shorter Write and a Crash", d, 1, filled(count, 99)...)
	}
	d := made(t, 1)
	writes(t, d, 0, 1, 2, 3)
	writes(t, d, 0)
	reads(t, "behind a Write of no bytes", d, 0)
	if err := d.Write(0, nil); err != api.OK {
		t.Errorf("P14.1: Write of nil: %d", err)
	}
	loose(t, "behind Writes of no bytes", d, 3)
}

func TestWriteChangesOneBlockAlone(t *testing.T) {
	const blocks = 7
	d := made(t, blocks)
	for n := range blocks {
		writes(t, d, n, filled(api.BlockSize, byte(10*n))...)
	}
	for n := range blocks {
		writes(t, d, n, 200, byte(n))
		for other := range blocks {
			if other <= n {
				reads(t, "written anew", d, other, 200, byte(other))
			} else {
				reads(t, "not written anew", d, other, filled(api.BlockSize, byte(10*other))...)
			}
		}
	}
}

func TestRefusedWritesAndReads(t *testing.T) {
	for _, blocks := range []int{1, 4, api.MaxBlocks} {
		d := made(t, blocks)
		writes(t, d, 0, 1)
		writes(t, d, blocks-1, 9, 8)
		for _, n := range []int{-1, -64, math.MinInt, blocks, blocks + 1, 64 * blocks, math.MaxInt} {
			for _, count := range []int{0, 1, 64, 65} { // ErrNone comes ahead of ErrLong
				if err := d.Write(n, filled(count, 3)); err != api.ErrNone {
					t.Errorf("errors: Write of %d bytes to the block %d of %d: %d; want ErrNone", count, n, blocks, err)
				}
			}
			if p, err := d.Read(n); len(p) != 0 || err != api.ErrNone {
				t.Errorf("errors: Read(%d) of %d blocks = %v, %d; want ErrNone", n, blocks, p, err)
			}
		}
		for _, n := range []int{0, blocks - 1} {
			for _, count := range []int{65, 66, 128, 5000} {
				if err := d.Write(n, filled(count, 3)); err != api.ErrLong {
					t.Errorf("errors: Write of %d bytes: %d; want ErrLong", count, err)
				}
			}
		}
		loose(t, "behind refused Writes", d, 2)
		reads(t, "behind refused Writes", d, blocks-1, 9, 8)
		crashes(t, d, 1)
		if blocks > 1 {
			reads(t, "behind refused Writes and a Crash", d, 0, 1)
			reads(t, "behind refused Writes and a Crash", d, blocks-1)
		}
	}
}

func TestRefusedCrash(t *testing.T) {
	d := made(t, 2)
	writes(t, d, 0, 5)
	syncs(t, d)
	writes(t, d, 0, 6)
	writes(t, d, 1, 7)
	for _, keep := range []int{-1, -2, math.MinInt} {
		if err := d.Crash(keep); err != api.ErrArg {
			t.Errorf("errors: Crash(%d): %d; want ErrArg", keep, err)
		}
	}
	loose(t, "behind a refused Crash", d, 2)
	reads(t, "behind a refused Crash", d, 0, 6)
	reads(t, "behind a refused Crash", d, 1, 7)
	crashes(t, d, 0)
	reads(t, "behind a Crash that isn't refused", d, 0, 5)
	reads(t, "behind a Crash that isn't refused", d, 1)
}

func TestNil(t *testing.T) {
	var d *disk.Disk
	for _, n := range []int{0, -1, 1, math.MaxInt} {
		if err := d.Write(n, filled(65, 1)); err != api.ErrNil {
			t.Errorf("Nil: Write: %d", err)
		}
		if p, err := d.Read(n); len(p) != 0 || err != api.ErrNil {
			t.Errorf("Nil: Read = %v, %d", p, err)
		}
		if err := d.Crash(n); err != api.ErrNil {
			t.Errorf("Nil: Crash(%d): %d", n, err)
		}
	}
	if err := d.Sync(); err != api.ErrNil {
		t.Errorf("Nil: Sync: %d", err)
	}
	if d.Loose() != 0 || d.Blocks() != 0 {
		t.Errorf("Nil: Loose %d, Blocks %d", d.Loose(), d.Blocks())
	}
}

// P1 holds for a disk that doesn't come from New, too.
func TestNotFromNew(t *testing.T) {
	d := new(disk.Disk)
	for _, n := range []int{0, -1, 1, math.MaxInt} {
		d.Write(n, []byte{1})
		d.Read(n)
		d.Loose()
		d.Blocks()
		d.Crash(n)
		d.Write(n, []byte{1})
		d.Sync()
	}
}
