package disk_test

import (
	"math"
	"testing"

	"furlong/disk"
)

// home is the disk of the chapter's example.
func home(t *testing.T) *disk.Disk {
	t.Helper()
	d := made(t, 2)
	writes(t, d, 0, 1, 2, 3)
	syncs(t, d)
	writes(t, d, 0, 9)
	writes(t, d, 1, 7)
	loose(t, "of two Writes", d, 2)
	return d
}

func TestCrashAsTheChapterTells(t *testing.T) {
	d := home(t)
	crashes(t, d, 0)
	reads(t, "behind Crash(0)", d, 0, 1, 2, 3)
	reads(t, "behind Crash(0)", d, 1)
	d = home(t)
	crashes(t, d, 1)
	reads(t, "behind Crash(1)", d, 0, 9)
	reads(t, "behind Crash(1)", d, 1)
	for _, keep := range []int{2, 3, 1000, math.MaxInt} {
		d = home(t)
		crashes(t, d, keep)
		reads(t, "behind a Crash that keeps all", d, 0, 9)
		reads(t, "behind a Crash that keeps all", d, 1, 7)
	}
}

// Several writes of one block, and of others between: the first keep ones stay, in their order.
func TestCrashAmongWritesOfOneBlock(t *testing.T) {
	order := []int{1, 1, 0, 1, 2, 0, 1, 1, 2, 0, 0}
	for keep := range len(order) + 3 {
		d := made(t, 4)
		was := [4]byte{50, 51, 52, 53}
		for n, mark := range was {
			writes(t, d, n, mark)
		}
		syncs(t, d)
		for at, n := range order {
			writes(t, d, n, byte(100+at))
			if at < keep {
				was[n] = byte(100 + at)
			}
		}
		loose(t, "of several Writes of one block", d, len(order))
		crashes(t, d, keep)
		for n, mark := range was {
			reads(t, "behind a Crash among Writes of one block", d, n, mark)
		}
	}
}

// A write counts, whatever it writes: also just what stands there.
func TestWritesOfTheSameCount(t *testing.T) {
	d := made(t, 2)
	writes(t, d, 0)
	writes(t, d, 0)
	writes(t, d, 1, 4)
	writes(t, d, 1, 4)
	writes(t, d, 1, 5)
	loose(t, "of Writes of the same", d, 5)
	crashes(t, d, 4)
	reads(t, "behind Writes of the same", d, 1, 4)
}

func TestWhatIsSafeStays(t *testing.T) {
	d := made(t, 3)
	writes(t, d, 0, 1)
	crashes(t, d, 1) // what stays is safe from then on
	writes(t, d, 0, 2)
	crashes(t, d, 0)
	reads(t, "that a Crash left", d, 0, 1)
	writes(t, d, 1, 3)
	writes(t, d, 1, 4)
	syncs(t, d)
	syncs(t, d)
	crashes(t, d, 0)
	crashes(t, d, 0)
	reads(t, "that was safe", d, 1, 4)
	writes(t, d, 2, 5)
	crashes(t, d, 0)
	crashes(t, d, 1) // what was lost doesn't come back
	reads(t, "that was lost", d, 2)
}

func TestTwoDisksStandAlone(t *testing.T) {
	a, b := made(t, 2), made(t, 2)
	writes(t, a, 0, 1)
	writes(t, b, 0, 2)
	writes(t, b, 1, 3)
	syncs(t, a)
	loose(t, "of another disk than is synced", b, 2)
	crashes(t, b, 0)
	reads(t, "of another disk than crashes", a, 0, 1)
	reads(t, "of the disk that crashes", b, 0)
}

func TestManyLooseWrites(t *testing.T) {
	const many = 100000
	for _, keep := range []int{0, 1, many / 2, many - 1, many} {
		d := made(t, 3)
		for at := range many {
			writes(t, d, at%3, byte(at), byte(at>>8), byte(at>>16))
		}
		loose(t, "of many", d, many)
		crashes(t, d, keep)
		for n := range 3 {
			last := -1
			for at := max(0, keep-3); at < keep; at++ {
				if at%3 == n {
					last = at
				}
			}
			if last < 0 {
				reads(t, "behind many Writes", d, n)
				continue
			}
			reads(t, "behind many Writes", d, n, byte(last), byte(last>>8), byte(last>>16))
		}
	}
}
