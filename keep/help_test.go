package keep_test

import (
	"bytes"
	"math"
	"slices"
	"testing"

	"furlong/api"
	"furlong/disk"
	"furlong/keep"
)

const (
	maxIndex    = 1152921504606846976
	maxSnapshot = api.MaxBytes / 4
	maxData     = 60000
)

type entry struct {
	term int
	data []byte
}

// model is what the document says that a keep is, and what of the room counts.
type model struct {
	term, voted    int
	base, baseTerm int
	snapshot       []byte
	entries        []entry
	used           int
}

func (m model) last() int { return m.base + len(m.entries) }

func (m model) vote(term, vote int) model {
	m.term, m.voted = term, vote
	m.used += 40
	return m
}

func (m model) put(index, term int, data []byte) model {
	m.entries = append(slices.Clone(m.entries[:index-m.base-1]), entry{term, bytes.Clone(data)})
	m.used += len(data) + 40
	return m
}

func (m model) reset(index, term int, snapshot []byte) model {
	var left []entry
	if index <= m.last() && m.entries[index-m.base-1].term == term {
		left = slices.Clone(m.entries[index-m.base:])
	}
	m.base, m.baseTerm, m.snapshot, m.entries = index, term, bytes.Clone(snapshot), left
	m.used = len(snapshot)
	for _, e := range left {
		m.used += len(e.data) + 40
	}
	return m
}

// The errors of the chapter, but ErrFull.

func (m model) voteErr(term, vote int) api.Errno {
	if term < 0 || term < m.term || vote < -1 {
		return api.ErrArg
	}
	return api.OK
}

func (m model) putErr(index, term int, data []byte) api.Errno {
	if index < m.base+1 || index > m.last()+1 || term < 0 || len(data) > maxData {
		return api.ErrArg
	}
	return api.OK
}

func (m model) resetErr(index, term int, snapshot []byte) api.Errno {
	switch {
	case index <= m.base || index > maxIndex || term < 0:
		return api.ErrArg
	case len(snapshot) > maxSnapshot:
		return api.ErrLong
	}
	return api.OK
}

func (m model) alike(o model) bool {
	return m.term == o.term && m.voted == o.voted && m.base == o.base && m.baseTerm == o.baseTerm &&
		bytes.Equal(m.snapshot, o.snapshot) &&
		slices.EqualFunc(m.entries, o.entries, func(a, b entry) bool { return a.term == b.term && bytes.Equal(a.data, b.data) })
}

// heard is what a keep tells of itself, with nothing of the room.
func heard(t *testing.T, k *keep.Keep) model {
	t.Helper()
	m := model{term: k.Term(), voted: k.Voted()}
	m.base, m.baseTerm, m.snapshot = k.Base()
	for index := m.base + 1; index <= k.Last(); index++ {
		term, data, err := k.Entry(index)
		if err != api.OK {
			t.Fatalf("P16.1: Entry(%d) of %d to %d: %d", index, m.base+1, k.Last(), err)
		}
		m.entries = append(m.entries, entry{term, data})
	}
	if k.Last() != m.last() {
		t.Fatalf("P16.1: Base %d, Last %d", m.base, k.Last())
	}
	return m
}

// run is a keep on a disk, and what the first of its calls have made of it: one more behind each, those from safe on are allowed behind a crash.
type run struct {
	t     *testing.T
	d     *disk.Disk
	k     *keep.Keep
	lived []model
	safe  int
}

func blank(t *testing.T, blocks int) *disk.Disk {
	t.Helper()
	d, err := disk.New(blocks)
	if err != api.OK {
		t.Fatalf("a disk of %d blocks: %d", blocks, err)
	}
	return d
}

func begin(t *testing.T, blocks int) *run {
	t.Helper()
	r := &run{t: t, d: blank(t, blocks), lived: []model{{voted: -1}}}
	r.open()
	return r
}

func (r *run) now() model { return r.lived[len(r.lived)-1] }

// room is what a store has room for by chapter 15.
func (r *run) room() int { return r.d.Blocks()*api.BlockSize/4 - 1024 }

func (r *run) left() int { return r.room() - r.now().used }

// same asks the keep for all that it tells.
func (r *run) same(what string) {
	r.t.Helper()
	want := r.now()
	if got := heard(r.t, r.k); !got.alike(want) {
		r.t.Fatalf("P16.1: %s: %.300v; want %.300v", what, got, want)
	}
	for _, index := range []int{math.MinInt, -1, 0, want.base - 1, want.base, want.last() + 1, want.last() + 2, math.MaxInt} {
		if term, data, err := r.k.Entry(index); term != 0 || len(data) != 0 || err != api.ErrNone {
			r.t.Fatalf("errors: %s: Entry(%d) of %d to %d: %d, %v, %d; want ErrNone", what, index, want.base+1, want.last(), term, data, err)
		}
	}
}

// came takes a call's answer: want is what the chapter asks for, next what the call makes of the keep.
func (r *run) came(what string, got, want api.Errno, next func() model, loose int) bool {
	r.t.Helper()
	full := got == api.ErrFull && want == api.OK && next().used > r.room()
	if got != want && !full {
		r.t.Fatalf("errors: %s: %d; want %d (room for %d, used are %d)", what, got, want, r.room(), r.now().used)
	}
	if got != api.OK {
		if r.d.Loose() != loose {
			r.t.Fatalf("errors: behind a refused %s Loose is %d; was %d", what, r.d.Loose(), loose)
		}
		return false
	}
	r.lived = append(r.lived, next())
	return true
}

func (r *run) vote(term, vote int) bool {
	r.t.Helper()
	m, loose := r.now(), r.d.Loose()
	return r.came("Vote", r.k.Vote(term, vote), m.voteErr(term, vote), func() model { return m.vote(term, vote) }, loose)
}

func (r *run) put(index, term int, data []byte) bool {
	r.t.Helper()
	m, loose := r.now(), r.d.Loose()
	return r.came("Put", r.k.Put(index, term, data), m.putErr(index, term, data), func() model { return m.put(index, term, data) }, loose)
}

func (r *run) next(term int, data []byte) bool {
	r.t.Helper()
	return r.put(r.now().last()+1, term, data)
}

func (r *run) reset(index, term int, snapshot []byte) bool {
	r.t.Helper()
	m, loose := r.now(), r.d.Loose()
	if !r.came("Reset", r.k.Reset(index, term, snapshot), m.resetErr(index, term, snapshot), func() model { return m.reset(index, term, snapshot) }, loose) {
		return false
	}
	r.safe = len(r.lived) - 1
	return true
}

func (r *run) sync() {
	r.t.Helper()
	if err := r.k.Sync(); err != api.OK {
		r.t.Fatalf("P16.1: Sync: %d", err)
	}
	r.safe = len(r.lived) - 1
}

// open: without a crash all is there.
func (r *run) open() {
	r.t.Helper()
	for range 2 { // P2: the second time as the first time
		k, err := keep.Open(r.d)
		if k == nil || err != api.OK {
			r.t.Fatalf("P16.1: Open: %d", err)
		}
		r.k = k
		r.same("behind Open")
	}
}

// crash: behind it the keep is what the first calls have made of it, at least those that were safe; all, if nothing was lost.
func (r *run) crash(keeps int) {
	r.t.Helper()
	least := r.safe
	if keeps >= r.d.Loose() {
		least = len(r.lived) - 1
	}
	if err := r.d.Crash(keeps); err != api.OK {
		r.t.Fatalf("Crash(%d): %d", keeps, err)
	}
	k, err := keep.Open(r.d)
	if k == nil || err != api.OK {
		r.t.Fatalf("P16.2: Open behind a crash: %d", err)
	}
	got := heard(r.t, k)
	at := slices.IndexFunc(r.lived[least:], got.alike)
	if at < 0 {
		r.t.Fatalf("P16.2: behind Crash(%d), where %d of %d calls were safe: %.300v", keeps, r.safe, len(r.lived)-1, got)
	}
	r.k, r.lived, r.safe = k, []model{r.lived[least+at]}, 0
	r.open()
}

// told is so many bytes that tell of a mark and of their places.
func told(count int, mark byte) []byte {
	p := make([]byte, count)
	for i := range p {
		p[i] = mark + byte(i*7) + byte(i>>8)
	}
	return p
}
