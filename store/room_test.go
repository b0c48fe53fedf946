package store_test

import (
	"testing"

	"furlong/api"
)

var disks = []int{64, 65, 66, 67, 68, 69, 70, 80, 99, 128, 131, 200, 300, 511, 1000}

// fillUp appends records of so many bytes up to the last one that the chapter promises room for, and then one that takes just what is left.
func (r *run) fillUp(count int, between func()) {
	r.t.Helper()
	for r.left() >= 32+count {
		r.append(told(count, byte(len(r.records))))
		between()
	}
	for r.left() >= 32 {
		r.append(told(min(r.left()-32, 65536), 9))
		between()
	}
}

func TestRoomForRecords(t *testing.T) {
	for _, blocks := range disks {
		for _, count := range []int{0, 1, 13, 14, 15, 31, 32, 33, 40, 50, 64, 100, 1000, 20000} {
			r := begin(t, blocks)
			r.fillUp(count, func() {})
			r.crash(1 << 40)
		}
	}
}

// A Sync takes no room, nor does Open.
func TestRoomBehindSyncAndOpen(t *testing.T) {
	for _, blocks := range disks {
		for _, count := range []int{0, 1, 20, 33, 70} {
			r := begin(t, blocks)
			r.fillUp(count, r.sync)
			r.crash(0)
			r = begin(t, blocks)
			r.fillUp(count, r.open)
			r.crash(0)
		}
	}
}

// Nor does what a crash cut off.
func TestRoomBehindCrashes(t *testing.T) {
	for _, blocks := range disks {
		for _, count := range []int{0, 1, 30, 64, 200} {
			r := begin(t, blocks)
			turn := 0
			r.fillUp(count, func() {
				r.sync()
				turn++
				if n := r.left() - 32; n >= 0 {
					r.append(told(min(n, 300), 77))
					r.crash(turn % max(1, min(5, r.d.Loose())))
				}
			})
			r.crash(0)
		}
	}
}

func TestRoomForSnapshots(t *testing.T) {
	for _, blocks := range disks {
		most := room(blocks)
		r := begin(t, blocks)
		for turn := range 12 {
			r.checkpoint(told(most, byte(turn)))
			if turn%3 == 1 {
				r.crash(0)
			}
			r.checkpoint(told(most/(turn+1), byte(turn)))
			r.fillUp([]int{0, 10, 33, 64, 500}[turn%5], func() {})
			if turn%3 == 2 {
				r.crash(1 << 40)
			}
			r.open()
		}
	}
}

func TestRoomOfTheGreatestDisk(t *testing.T) {
	r := begin(t, api.MaxBlocks)
	r.fillUp(65536, func() {})
	r.open()
	for turn := range 3 {
		r.checkpoint(told(api.MaxBytes/2, byte(turn)))
		r.fillUp([]int{65536, 5000, 0}[turn], func() {})
	}
	r.crash(1 << 40)
}

// A disk takes no more than it has, and a record that is refused changes nothing: what is behind it comes as if it hadn't been.
func TestFull(t *testing.T) {
	for _, blocks := range []int{1, 2, 3, 4, 5, 6, 8, 10, 20, 40, 63, 64, 65, 100, 300} {
		for _, count := range []int{0, 1, 33, 64, 100, 1000, 65536} {
			r := begin(t, blocks)
			for turn := range 4 {
				for r.tries(told(count, byte(len(r.records)))) {
					if r.used()-32*len(r.records) > blocks*api.BlockSize || len(r.records) > 8*blocks*api.BlockSize {
						t.Fatalf("errors: a disk of %d blocks takes %d records of %d bytes", blocks, len(r.records), count)
					}
					if turn == 1 && len(r.records)%3 == 0 {
						r.sync()
					}
				}
				for n := min(count, 2000); n > 0; n /= 2 { // what is shorter may go in still
					r.tries(told(n, 99))
				}
				full := r.d.Loose()
				r.tries(told(count, 5))
				r.triesCheckpoint(told(blocks*api.BlockSize+1, 6))
				r.crash(full * turn / 3)
				if turn == 2 {
					r.triesCheckpoint(told(count, 7))
				}
			}
		}
	}
}

func TestSnapshotsThatDoNotFit(t *testing.T) {
	for _, blocks := range []int{1, 2, 3, 5, 20, 64, 100, 500} {
		r := begin(t, blocks)
		r.tries([]byte("a"))
		r.sync()
		r.tries([]byte("b"))
		for _, n := range []int{blocks*api.BlockSize + 1, 2 * blocks * api.BlockSize, api.MaxBytes / 2} {
			if r.triesCheckpoint(told(n, 1)) {
				t.Fatalf("errors: a disk of %d blocks takes a snapshot of %d bytes", blocks, n)
			}
		}
		r.tries([]byte("c"))
		r.open()
		r.crash(0)
	}
}
