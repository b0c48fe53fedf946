package keep_test

import (
	"math"
	"testing"

	"furlong/api"
)

var disks = []int{66, 67, 68, 69, 70, 80, 99, 128, 131, 200, 300, 511, 1000}

// wants stops a test that asks for more room than is promised.
func (r *run) wants(what string, ok bool) {
	r.t.Helper()
	if !ok {
		r.t.Fatalf("errors: %s isn't taken, with room for %d, of which %d are used", what, r.room(), r.now().used)
	}
}

// fillUp puts entries of so many bytes up to the last one for which there is room, then one that takes just what is left, then a Vote.
func (r *run) fillUp(count, term int, between func()) {
	r.t.Helper()
	for r.left() >= count+40 {
		r.wants("Put", r.next(term, told(count, byte(r.now().last()))))
		between()
	}
	for r.left() >= 80 {
		r.wants("Put", r.next(term, told(min(r.left()-80, maxData), 9)))
		between()
	}
	for r.left() >= 40 {
		r.wants("Vote", r.vote(r.now().term, 3))
		between()
	}
}

func TestRoomForPuts(t *testing.T) {
	for _, blocks := range disks {
		for _, count := range []int{0, 1, 5, 6, 7, 8, 9, 30, 38, 39, 40, 41, 64, 100, 1000, 20000} {
			for _, term := range []int{0, 3000, math.MaxInt} {
				r := begin(t, blocks)
				r.fillUp(count, term, func() {})
				r.crash(math.MaxInt)
			}
		}
	}
}

func TestRoomForVotes(t *testing.T) {
	for _, blocks := range disks {
		for _, big := range []int{0, 440, 66000, math.MaxInt - 100000} {
			r := begin(t, blocks)
			for n := 0; r.left() >= 40; n++ {
				r.wants("Vote", r.vote(big+n, []int{-1, n, big + n}[n%3]))
			}
			r.crash(math.MaxInt)
		}
	}
}

// Entries that make way for others count for the room, but no less are taken than that.
func TestRoomForTheSameEntryAgain(t *testing.T) {
	for _, blocks := range disks {
		for _, count := range []int{0, 10, 100, 700} {
			r := begin(t, blocks)
			for n := 0; r.left() >= count+40; n++ {
				m := r.now()
				r.wants("Put", r.put(min(m.last()+1, m.base+1+n%5), n, told(count, byte(n))))
			}
			r.crash(math.MaxInt)
		}
	}
}

// Neither a Sync nor Open takes room, nor does what a crash took.
func TestRoomBesides(t *testing.T) {
	for _, blocks := range disks {
		for _, count := range []int{0, 1, 20, 33, 70, 300} {
			r := begin(t, blocks)
			r.fillUp(count, 1, r.sync)
			r = begin(t, blocks)
			r.fillUp(count, 1, r.open)
			r = begin(t, blocks)
			r.fillUp(count, 1, func() {
				r.sync()
				if n := r.left() - 40; n >= 0 {
					r.wants("Put", r.next(2, told(min(n, 300), 77)))
					r.crash(n % max(1, min(5, r.d.Loose())))
				}
			})
			r.crash(0)
		}
	}
}

// A Reset has room if its snapshot has, whatever stood there ahead of it.
func TestRoomForSnapshots(t *testing.T) {
	for _, blocks := range disks {
		for _, big := range []int{0, 1 << 50} {
			r := begin(t, blocks)
			most := r.room()
			r.vote(big, big)
			for turn := range 12 {
				m := r.now()
				r.wants("Reset", r.reset(m.last()+1+big/16, big+turn, told(most, byte(turn))))
				if turn%3 == 1 {
					r.crash(0)
				}
				r.wants("Reset", r.reset(r.now().last()+1, turn, told(most/(turn+1), byte(turn))))
				r.fillUp([]int{0, 10, 33, 64, 500}[turn%5], big+turn, func() {})
				if turn%3 == 2 {
					r.crash(math.MaxInt)
				}
				r.open()
			}
		}
	}
}

// So has it with what it leaves: here it leaves all entries but one, and its snapshot takes all room besides.
func TestRoomForWhatIsLeft(t *testing.T) {
	for _, blocks := range disks {
		for _, count := range []int{0, 1, 20, 40, 300} {
			for _, term := range []int{0, math.MaxInt} {
				r := begin(t, blocks)
				for turn := range 6 {
					for n := 0; r.left() >= count+40 && n < 4+turn*3; n++ {
						r.wants("Put", r.next(term, told(count, byte(n))))
					}
					m := r.now()
					left := 0
					for _, e := range m.entries[min(1, len(m.entries)):] {
						left += len(e.data) + 40
					}
					if left > r.room() {
						continue
					}
					r.wants("Reset", r.reset(m.base+1, term, told(r.room()-left, byte(turn))))
					r.wants("Reset", r.reset(r.now().last()+1, term, nil))
				}
				r.crash(0)
			}
		}
	}
}

// Behind many Resets there is as much room as behind the first one.
func TestRoomBehindManyResets(t *testing.T) {
	for _, blocks := range []int{100, 131, 400} {
		r := begin(t, blocks)
		for turn := range 150 {
			for r.left() >= 100 {
				r.wants("Put", r.next(turn, told(60, byte(turn))))
			}
			r.wants("Reset", r.reset(r.now().last()-turn%2, turn, told(turn, 2)))
			if turn%10 == 9 {
				r.crash(turn)
			}
		}
	}
}

// great are the entries that a Reset leaves on the greatest disk, without the first one of no bytes: with the longest snapshot they take just all of the room.
func great(r *run, count, term int) {
	r.t.Helper()
	r.wants("Put", r.next(term, nil))
	left := func() int { return r.left() + 40 - maxSnapshot }
	for left() >= 40 {
		r.wants("Put", r.next(term, told(min(count, left()-40), byte(r.now().last()))))
	}
}

// A Reset may leave more than goes into a store's snapshot.
func TestRoomOfTheGreatestDisk(t *testing.T) {
	for _, count := range []int{60000, 59999, 32768, 32767, 9000, 200} {
		for _, term := range []int{1, math.MaxInt} {
			r := begin(t, api.MaxBlocks)
			r.vote(term, term)
			r.wants("Reset", r.reset(maxIndex-1<<20, term, nil))
			great(r, count, term)
			r.wants("Reset", r.reset(r.now().base+1, term, told(maxSnapshot, 5)))
			r.same("behind a great Reset")
			r.crash(0)
			r.fillUp(count, term, func() {})
			r.crash(math.MaxInt)
			r.wants("Reset", r.reset(r.now().base+1, term, told(maxSnapshot-count, 6)))
			r.crash(0)
			r.wants("Reset", r.reset(r.now().last(), term, told(maxSnapshot, 7)))
			r.crash(0)
		}
	}
}

// At each edge of what goes into a store's snapshot, and of pieces of the length of its records.
func TestAtTheEdgesOfTheGreatestDisk(t *testing.T) {
	for _, size := range []int{524288, 524288 + 65536} {
		for more := -90; more <= 10; more += 4 {
			r := begin(t, api.MaxBlocks)
			for at := 0; at < size-maxSnapshot; {
				n := min(maxData, max(0, size-maxSnapshot-at+more))
				r.wants("Put", r.next(3, told(n, byte(at))))
				at += n + 5
			}
			r.put(r.now().last()+1, 3, told(10, 1))
			r.wants("Reset", r.reset(1, 3, told(maxSnapshot-1000, 4)))
			r.wants("Put", r.next(3, told(60, 9)))
			r.wants("Vote", r.vote(5, 0))
			r.sync()
			r.crash(0)
			r.wants("Reset", r.reset(2, 3, told(maxSnapshot, 4)))
			r.crash(0)
		}
	}
}

// A disk takes no more than it has; what is refused changes nothing, and what is behind it comes as if it hadn't been.
func TestFull(t *testing.T) {
	for _, blocks := range []int{1, 2, 3, 4, 5, 6, 8, 10, 20, 40, 63, 64, 65, 66, 100, 300} {
		for _, count := range []int{64, 100, 1000, 60000} {
			r := begin(t, blocks)
			for turn := range 4 {
				for r.next(turn, told(count, byte(turn))) {
					if held := r.now().last() - r.now().base; held*count > blocks*api.BlockSize {
						t.Fatalf("errors: a disk of %d blocks takes %d entries of %d bytes", blocks, held, count)
					}
					if turn == 1 {
						r.sync()
					}
				}
				for n := min(count, 2000); n > 0; n /= 2 { // what is shorter may go in still
					r.next(turn, told(n, 99))
					r.vote(r.now().term+n%2, turn)
				}
				full := r.d.Loose()
				r.next(0, told(count, 5))
				r.put(r.now().base+1, 0, told(count, 6))
				r.reset(r.now().base+1, 0, told(blocks*api.BlockSize+1, 6))
				r.same("behind refused calls")
				r.crash(full * turn / 3)
				if turn == 2 {
					r.reset(r.now().last()+1, 0, told(count, 7))
				}
			}
			r.same("at the end")
		}
	}
}

// A Reset that doesn't fit leaves all as it was: one that is too long for the disk, one that leaves too much.
func TestResetsThatDoNotFit(t *testing.T) {
	for _, blocks := range []int{1, 2, 5, 20, 64, 100, 500, 2000} {
		r := begin(t, blocks)
		r.next(1, []byte("a"))
		r.sync()
		r.next(1, []byte("b"))
		r.vote(2, 1)
		for _, n := range []int{blocks*api.BlockSize + 1, 2 * blocks * api.BlockSize, maxSnapshot} {
			if n <= maxSnapshot && n > blocks*api.BlockSize && r.reset(r.now().base+1, 1, told(n, 1)) {
				t.Fatalf("errors: a disk of %d blocks takes a snapshot of %d bytes", blocks, n)
			}
			r.same("behind a refused Reset")
		}
		r.next(1, []byte("c"))
		r.open()
		r.crash(0)
	}
	r := begin(t, api.MaxBlocks)
	r.next(1, nil)
	for r.next(1, told(maxData, byte(r.now().last()))) { // as much as there is room for at all
	}
	r.reset(1, 1, told(maxSnapshot, 1))
	r.same("behind a Reset that leaves all")
	r.next(2, told(5000, 1))
	r.crash(math.MaxInt)
	r.wants("Reset", r.reset(r.now().last(), 1, told(maxSnapshot, 1)))
	r.crash(0)
}
