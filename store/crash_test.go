package store_test

import (
	"math"
	"math/rand"
	"testing"

	"furlong/api"
)

// step is one thing that a script does.
type step func(*run)

func record(count int, mark byte) step { return func(r *run) { r.append(told(count, mark)) } }

func zeros(count int) step { return func(r *run) { r.append(fill(count, 0)) } }

func snapshot(count int, mark byte) step { return func(r *run) { r.checkpoint(told(count, mark)) } }

func safe(r *run) { r.sync() }

func again(r *run) { r.open() }

func scripts() [][]step {
	return [][]step{
		{record(1, 1), safe, record(1, 2)},
		{record(0, 0), record(0, 0), safe, record(0, 0), snapshot(0, 0), record(0, 0), record(0, 0)},
		{record(5, 1), record(100, 2), safe, record(300, 3), record(0, 4), snapshot(200, 5), record(40, 6), record(130, 7), safe, record(64, 8), snapshot(0, 0), record(500, 9), record(3, 10)},
		{snapshot(10, 1), snapshot(300, 2), snapshot(7, 3), record(70, 4), snapshot(64, 5), record(70, 6), again, record(150, 7)},
		{zeros(300), zeros(64), safe, zeros(1), zeros(500), snapshot(100, 0), zeros(200), zeros(46)},
		{record(45, 1), record(46, 2), record(47, 3), safe, safe, record(63, 4), record(64, 5), record(65, 6), again, record(128, 7), record(127, 8)},
	}
}

// At each place of each script, with each keep: a crash; then the rest of the script, and another crash.
func TestCrashAtEachPlace(t *testing.T) {
	for _, script := range scripts() {
		for at := range len(script) + 1 {
			loose := 0
			for keep := 0; keep <= loose+1; keep++ {
				r := begin(t, 400)
				for _, do := range script[:at] {
					do(r)
				}
				loose = r.d.Loose()
				r.crash(keep)
				for _, do := range script[at:] {
					do(r)
				}
				r.crash([]int{0, math.MaxInt, keep, r.d.Loose()}[keep%4])
			}
		}
	}
}

// keeps are all that a crash may keep.
func keeps(r *run) []int {
	var l []int
	for keep := range r.d.Loose() + 2 {
		l = append(l, keep)
	}
	return l
}

// What a crash cuts off of a record, and a shorter or longer one in its place that is cut off again.
func TestCutOffAndWrittenAnew(t *testing.T) {
	chance := rand.New(rand.NewSource(1))
	for _, ahead := range []int{0, 30, 37, 110} {
		for range 900 {
			first, second := 40+chance.Intn(400), 1+chance.Intn(400)
			r := begin(t, 200)
			r.append(told(ahead, 1))
			r.sync()
			r.append(told(first, 50))
			r.crash(chance.Intn(r.d.Loose() + 1))
			r.append(told(second, 150))
			r.crash(chance.Intn(r.d.Loose() + 1))
			r.append(told(chance.Intn(200), 90))
			r.crash(chance.Intn(r.d.Loose() + 2))
		}
	}
}

// stale are bytes that what reads on by mistake may take for records, wherever it begins.
func stale(r *run, kind, count int) []byte {
	switch kind {
	case 0:
		return fill(count, 0)
	case 1:
		return fill(count, 1)
	case 2:
		return fill(count, 2)
	case 3:
		p := images(r.d)
		for len(p) > 0 && len(p) < count {
			p = append(p, p...)
		}
		return p[:min(count, len(p))]
	}
	return told(count, 50)
}

// A record of each length behind what a crash cut off: where it ends at a block's end, what was cut off goes on behind it.
func TestWhatWasCutOffIsNoRecord(t *testing.T) {
	for kind := range 5 {
		for keep := 1; keep < 6; keep++ {
			for count := range 140 {
				r := begin(t, 200)
				r.append(told(20, 1))
				r.sync()
				r.append(stale(r, kind, 330))
				r.crash(keep)
				r.append(told(count, 150))
				r.open()
				r.append(told(count/2, 160))
				r.crash(count % (r.d.Loose() + 1))
			}
		}
	}
}

// What elder generations left is no record either.
func TestWhatIsElderIsNoRecord(t *testing.T) {
	for kind := range 5 {
		for snapshots := 1; snapshots < 5; snapshots++ {
			for count := range 100 {
				r := begin(t, 200)
				for range 3 {
					r.append(stale(r, kind, 250))
				}
				for n := range snapshots {
					r.checkpoint(told(20+n, byte(n)))
					if n < snapshots-1 && count%2 == 0 {
						r.append(stale(r, kind, 600))
					}
				}
				r.append(told(count, 150))
				r.crash(math.MaxInt)
				r.append(told(count+50, 160))
				r.crash(count % (r.d.Loose() + 1))
			}
		}
	}
}

// A snapshot of each length over elder things: what ends at a block's end doesn't go on with these.
func TestWhatIsElderIsNoPartOfASnapshot(t *testing.T) {
	for kind := range 5 {
		for count := range 140 {
			r := begin(t, 200)
			r.checkpoint(told(100, 1))
			r.append(stale(r, kind, 700))
			r.checkpoint(stale(r, kind, 700))
			r.append(stale(r, kind, 100))
			r.checkpoint(told(count, 2))
			r.open()
			r.checkpoint(told(count, 3))
			r.crash(0)
			r.append(told(3, 3))
			r.crash(1)
		}
	}
}

// The same records with the same cuts, again and again: none of them is ever there twice.
func TestTheSameAgain(t *testing.T) {
	for count := 1; count < 400; count += 13 {
		r := begin(t, 300)
		r.append(told(10, 1))
		r.sync()
		for turn := range 12 {
			r.append(told(count, 2))
			r.append(told(count, 3))
			r.crash(turn % (r.d.Loose() + 1))
			if len(r.records) > 8 {
				r.checkpoint(told(count, 4))
			}
		}
	}
}

// chance is a script by chance: its lengths come often to where blocks end, its bytes are often those of other records, of blocks, of snapshots.
type chance struct {
	*rand.Rand
	seen [][]byte
}

func (c *chance) bytes(r *run, most int) []byte {
	count := []int{c.Intn(4), c.Intn(70), 40 + c.Intn(30), 100 + c.Intn(40), c.Intn(700)}[c.Intn(5)]
	count = max(0, min(count, most))
	switch c.Intn(6) {
	case 0:
		return fill(count, byte(c.Intn(3)))
	case 1:
		if p := images(r.d); len(p) > 0 {
			from := c.Intn(min(len(p), 64))
			return p[from:min(len(p), from+count)]
		}
	case 2:
		if len(c.seen) > 0 {
			return c.seen[c.Intn(len(c.seen))]
		}
	}
	p := make([]byte, count)
	c.Read(p)
	c.seen = append(c.seen, p)
	return p
}

func (c *chance) keep(r *run) int {
	loose := r.d.Loose()
	return []int{0, loose, loose + 1 + c.Intn(9), c.Intn(loose + 1), max(0, loose-1)}[c.Intn(5)]
}

func (c *chance) step(r *run) {
	r.t.Helper()
	switch kind := c.Intn(20); {
	case kind < 10:
		r.tries(c.bytes(r, r.left()-32))
	case kind < 13:
		r.sync()
	case kind < 14:
		r.triesCheckpoint(c.bytes(r, room(r.d.Blocks())))
	case kind < 15:
		r.open()
	case kind < 16:
		r.tries(told(api.BlockSize*r.d.Blocks()+1, 1))
	default:
		r.crash(c.keep(r))
	}
}

func TestManyCrashes(t *testing.T) {
	for seed := range int64(300) {
		c := &chance{Rand: rand.New(rand.NewSource(seed))}
		r := begin(t, []int{70, 100, 200, 400}[seed%4])
		for range 150 {
			c.step(r)
			if r.left() < 100 && c.Intn(3) == 0 {
				r.triesCheckpoint(c.bytes(r, 200))
			}
		}
	}
}

// Each keep, behind each step of a script by chance.
func TestEachKeepByChance(t *testing.T) {
	for seed := range int64(12) {
		for steps := 1; steps < 40; steps += 3 {
			lived := func() *run {
				c := &chance{Rand: rand.New(rand.NewSource(100 + seed))}
				r := begin(t, 300)
				for range steps {
					c.step(r)
				}
				return r
			}
			for _, keep := range keeps(lived()) {
				r := lived()
				r.crash(keep)
				r.append(told(keep, 7))
				r.crash(keep / 2)
			}
		}
	}
}
