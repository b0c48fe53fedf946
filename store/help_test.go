package store_test

import (
	"bytes"
	"testing"

	"furlong/api"
	"furlong/disk"
	"furlong/store"
)

// run is a store on a disk, and what the document says that it holds.
type run struct {
	t        *testing.T
	d        *disk.Disk
	s        *store.Store
	whole    bool
	snapshot []byte
	records  [][]byte
	safe     int
}

func blank(t *testing.T, blocks int) *disk.Disk {
	t.Helper()
	d, err := disk.New(blocks)
	if err != api.OK {
		t.Fatalf("a disk of %d blocks: %d", blocks, err)
	}
	return d
}

func begin(t *testing.T, blocks int) *run {
	t.Helper()
	r := &run{t: t, d: blank(t, blocks)}
	r.open()
	return r
}

// room is what the chapter promises: a quarter of the disk's bytes less 1024.
func room(blocks int) int { return blocks*api.BlockSize/4 - 1024 }

// used is what counts for the room.
func (r *run) used() int {
	n := len(r.snapshot)
	for _, p := range r.records {
		n += len(p) + 32
	}
	return n
}

func (r *run) left() int { return room(r.d.Blocks()) - r.used() }

// counts asks for Len and Safe.
func (r *run) counts(what string) {
	r.t.Helper()
	for range 2 { // P2: the second time as the first time
		if r.s.Len() != len(r.records) || r.s.Safe() != r.safe {
			r.t.Fatalf("P15.2: %s: Len %d, Safe %d; want %d, %d", what, r.s.Len(), r.s.Safe(), len(r.records), r.safe)
		}
	}
}

// append wants the record to be taken, for there is room.
func (r *run) append(p []byte) {
	r.t.Helper()
	if len(p)+32 > r.left() {
		r.t.Fatalf("the test wants more room than is promised: %d bytes more, where %d are left", len(p)+32, r.left())
	}
	if err := r.s.Append(p); err != api.OK {
		r.t.Fatalf("P15.2: Append of %d bytes, with room for %d: %d", len(p), r.left(), err)
	}
	r.records = append(r.records, bytes.Clone(p))
	r.counts("behind Append")
}

// tries tells whether the record was taken; that it wasn't is right only where no room is promised.
func (r *run) tries(p []byte) bool {
	r.t.Helper()
	if len(p)+32 <= r.left() {
		r.append(p)
		return true
	}
	loose := r.d.Loose()
	switch err := r.s.Append(p); err {
	case api.OK:
		r.records = append(r.records, bytes.Clone(p))
		r.counts("behind Append")
		return true
	case api.ErrFull:
		r.same("a refused Append", loose)
		return false
	default:
		r.t.Fatalf("errors: Append of %d bytes: %d; want OK or ErrFull", len(p), err)
		return false
	}
}

// same asks that nothing that is told has changed beside an error.
func (r *run) same(what string, loose int) {
	r.t.Helper()
	r.counts("behind " + what)
	if r.d.Loose() != loose {
		r.t.Fatalf("errors: behind %s Loose is %d; was %d", what, r.d.Loose(), loose)
	}
}

func (r *run) sync() {
	r.t.Helper()
	if err := r.s.Sync(); err != api.OK {
		r.t.Fatalf("P15.2: Sync: %d", err)
	}
	if r.d.Loose() != 0 {
		r.t.Fatalf("P15.2: Sync: the disk's Loose is %d then", r.d.Loose())
	}
	r.safe = len(r.records)
	r.counts("behind Sync")
}

func (r *run) checkpoint(p []byte) {
	r.t.Helper()
	if len(p) > room(r.d.Blocks()) {
		r.t.Fatalf("the test wants more room than is promised: a snapshot of %d bytes", len(p))
	}
	if err := r.s.Checkpoint(p); err != api.OK {
		r.t.Fatalf("P15.2: Checkpoint of %d bytes, with room for %d: %d", len(p), room(r.d.Blocks()), err)
	}
	r.begun(p)
}

func (r *run) begun(p []byte) {
	r.t.Helper()
	r.whole, r.snapshot, r.records, r.safe = true, bytes.Clone(p), nil, 0
	r.counts("behind Checkpoint")
}

func (r *run) triesCheckpoint(p []byte) bool {
	r.t.Helper()
	if len(p) <= room(r.d.Blocks()) {
		r.checkpoint(p)
		return true
	}
	loose := r.d.Loose()
	switch err := r.s.Checkpoint(p); err {
	case api.OK:
		r.begun(p)
		return true
	case api.ErrFull:
		r.same("a refused Checkpoint", loose)
		return false
	default:
		r.t.Fatalf("errors: Checkpoint of %d bytes: %d; want OK or ErrFull", len(p), err)
		return false
	}
}

// opened opens the store anew: of its records that many must be there still.
func (r *run) opened(what string, least, most int) {
	r.t.Helper()
	s, f, err := store.Open(r.d)
	if s == nil || err != api.OK {
		r.t.Fatalf("P15.1: Open, %s: %d", what, err)
	}
	if f.Whole != r.whole || !bytes.Equal(f.Snapshot, r.snapshot) {
		r.t.Fatalf("P15.3: Open, %s: Whole %v, %d bytes %.80x; want %v, %d bytes %.80x", what, f.Whole, len(f.Snapshot), f.Snapshot, r.whole, len(r.snapshot), r.snapshot)
	}
	n := len(f.Records)
	if n < least || n > most {
		r.t.Fatalf("P15.3: Open, %s: %d records; want %d to %d", what, n, least, most)
	}
	for at, p := range f.Records {
		if !bytes.Equal(p, r.records[at]) {
			r.t.Fatalf("P15.3: Open, %s: the record %d is %d bytes %.80x; want %d bytes %.80x", what, at, len(p), p, len(r.records[at]), r.records[at])
		}
	}
	r.s, r.records, r.safe = s, r.records[:n], n
	r.counts("behind Open, " + what)
}

// open: no crash, so all is there; the second time as the first time.
func (r *run) open() {
	r.t.Helper()
	for range 2 {
		r.opened("without a crash", len(r.records), len(r.records))
	}
}

func (r *run) crash(keep int) {
	r.t.Helper()
	least, most, what := r.safe, len(r.records), "behind a crash"
	if keep >= r.d.Loose() {
		least, what = most, "behind a crash that keeps all"
	} else if keep == 0 {
		most, what = least, "behind a crash that keeps nothing"
	}
	if err := r.d.Crash(keep); err != api.OK {
		r.t.Fatalf("Crash(%d): %d", keep, err)
	}
	r.opened(what, least, most)
	r.open()
}

// told is so many bytes that tell of a mark and of their places.
func told(count int, mark byte) []byte {
	p := make([]byte, count)
	for i := range p {
		p[i] = mark + byte(i*7) + byte(i>>8)
	}
	return p
}

func fill(count int, x byte) []byte { return bytes.Repeat([]byte{x}, count) }

// images are the bytes of all blocks that are written, one behind the other.
func images(d *disk.Disk) []byte {
	var all []byte
	for n := range d.Blocks() {
		b, _ := d.Read(n)
		if !bytes.Equal(b, make([]byte, api.BlockSize)) {
			all = append(all, b...)
		}
	}
	return all
}
