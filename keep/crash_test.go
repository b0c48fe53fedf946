package keep_test

import (
	"math"
	"math/rand"
	"testing"
)

// step is one thing that a script does.
type step func(*run)

func vote(term, vote int) step { return func(r *run) { r.vote(term, vote) } }

// next is the entry behind the last one; back is one that so many entries make way for.
func next(term, count int, mark byte) step { return back(0, term, count, mark) }

func back(away, term, count int, mark byte) step {
	return func(r *run) {
		m := r.now()
		r.put(max(m.base+1, m.last()+1-away), term, told(count, mark))
	}
}

// upTo resets to so many entries behind the base, with their term or with another one.
func upTo(on, other, count int, mark byte) step {
	return func(r *run) {
		m := r.now()
		term := other
		if on <= len(m.entries) {
			term += m.entries[on-1].term
		}
		r.reset(m.base+on, term, told(count, mark))
	}
}

func safe(r *run) { r.sync() }

func again(r *run) { r.open() }

func scripts() [][]step {
	return [][]step{
		{vote(1, 0), next(1, 1, 'a'), next(1, 1, 'b'), safe, back(1, 2, 1, 'c'), upTo(1, 0, 1, 's')},
		{vote(0, 0), vote(0, -1), safe, vote(1, 1), vote(1, 1), vote(7, -1), next(7, 0, 0), next(7, 0, 0), safe, safe, back(2, 7, 0, 0), vote(8, 2)},
		{next(1, 200, 1), next(1, 63, 2), safe, next(2, 0, 3), back(3, 3, 300, 4), vote(3, 0), next(3, 47, 5), back(1, 4, 64, 6), safe, next(4, 5, 7), back(9, 5, 130, 8), next(5, 500, 9)},
		{next(1, 30, 1), next(1, 40, 2), next(2, 150, 3), upTo(2, 0, 90, 4), next(2, 10, 5), again, back(1, 3, 70, 6), upTo(1, 1, 5, 7), next(3, 5, 8), next(3, 6, 9), upTo(5, 0, 0, 10), next(4, 100, 11)},
		{upTo(1, 0, 0, 0), upTo(1, 3, 300, 1), vote(3, 1), upTo(40, 5, 20, 2), next(5, 20, 3), upTo(1, 0, 20, 4), vote(4, 0), next(5, 400, 5), vote(5, -1)},
	}
}

// At each place of each script, with each keep: a crash; then the rest of the script, and another crash.
func TestCrashAtEachPlace(t *testing.T) {
	for _, script := range scripts() {
		for at := range len(script) + 1 {
			loose := 0
			for keep := 0; keep <= loose+1; keep++ {
				r := begin(t, 500)
				for _, do := range script[:at] {
					do(r)
				}
				loose = r.d.Loose()
				r.crash(keep)
				for _, do := range script[at:] {
					do(r)
				}
				r.crash([]int{0, math.MaxInt, keep, r.d.Loose(), r.d.Loose() / 2}[keep%5])
			}
		}
	}
}

// What is safe stays, whatever is lost behind it: behind Sync, and behind Reset without a Sync.
func TestWhatIsSafeStays(t *testing.T) {
	for _, script := range scripts() {
		for at := range len(script) + 1 {
			for _, reset := range []bool{false, true} {
				r := begin(t, 500)
				for _, do := range script[:at] {
					do(r)
				}
				if reset {
					upTo(1, 0, 30, 99)(r)
				} else {
					r.sync()
				}
				want := r.now()
				r.d.Crash(0)
				r.lived, r.safe = []model{want}, 0
				r.open()
			}
		}
	}
}

// chance is a script by chance.
type chance struct{ *rand.Rand }

func (c chance) bytes(most int) []byte {
	count := []int{c.Intn(3), c.Intn(70), c.Intn(300), 40 + c.Intn(30), 0}[c.Intn(5)]
	p := told(max(0, min(count, most)), byte(c.Intn(256)))
	if c.Intn(4) == 0 {
		clear(p)
	}
	return p
}

func (c chance) keep(r *run) int {
	loose := r.d.Loose()
	return []int{0, loose, loose + 1 + c.Intn(9), c.Intn(loose + 1), max(0, loose-1)}[c.Intn(5)]
}

// number is one near to another one, or far from all.
func (c chance) number(near int) int {
	if c.Intn(40) == 0 {
		return []int{math.MinInt, -1, maxIndex, maxIndex + 1, math.MaxInt}[c.Intn(5)]
	}
	return near + c.Intn(3) - 1
}

func (c chance) index(m model) int {
	return c.number(m.base + 1 + c.Intn(len(m.entries)+2))
}

func (c chance) reset(r *run) {
	m := r.now()
	index, term := c.index(m), c.number(m.term)
	if index > m.base && index <= m.last() && c.Intn(4) > 0 {
		term = m.entries[index-m.base-1].term
	}
	if index > m.last()+2 && c.Intn(20) > 0 { // few Resets so far on that hardly any is taken behind them
		return
	}
	r.reset(index, term, c.bytes(2000))
}

func (c chance) step(r *run) {
	r.t.Helper()
	m := r.now()
	switch kind := c.Intn(24); {
	case kind < 4 && c.Intn(30) > 0:
		r.vote(min(c.number(m.term), 1<<20), c.Intn(7)-2)
	case kind < 4:
		r.vote(c.number(m.term), c.number(0))
	case kind < 11:
		r.next(m.term, c.bytes(2000))
	case kind < 14:
		r.put(c.index(m), c.number(m.term), c.bytes(2000))
	case kind < 16:
		r.sync()
	case kind < 18:
		c.reset(r)
	case kind < 19:
		r.open()
	case kind < 20:
		r.same("by chance")
	default:
		r.crash(c.keep(r))
	}
}

func TestManyCrashes(t *testing.T) {
	for seed := range int64(250) {
		c := chance{rand.New(rand.NewSource(seed))}
		r := begin(t, []int{70, 100, 200, 400, 2000}[seed%5])
		for range 150 {
			c.step(r)
			if r.left() < 100 && c.Intn(3) == 0 {
				c.reset(r)
			}
		}
		r.same("by chance")
	}
}

// Each keep, behind each count of steps of a script by chance.
func TestEachKeepByChance(t *testing.T) {
	for seed := range int64(10) {
		for steps := 1; steps < 40; steps += 3 {
			loose := 0
			for keep := 0; keep <= loose+1; keep++ {
				c := chance{rand.New(rand.NewSource(1000 + seed))}
				r := begin(t, 300)
				for range steps {
					c.step(r)
				}
				loose = r.d.Loose()
				r.crash(keep)
				r.next(keep, told(keep, 7))
				r.vote(r.now().term+1, keep)
				r.crash(keep / 2)
			}
		}
	}
}
