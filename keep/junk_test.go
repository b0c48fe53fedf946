package keep_test

import (
	"bytes"
	"math"
	"math/rand"
	"slices"
	"testing"

	"furlong/api"
	"furlong/disk"
	"furlong/keep"
	"furlong/store"
)

// holds is what a store on a disk holds. (Opening it makes it safe.)
func holds(t *testing.T, d *disk.Disk) store.Found {
	t.Helper()
	_, f, err := store.Open(d)
	if err != api.OK {
		t.Fatalf("a store on that disk: %d", err)
	}
	return f
}

func alike(a, b store.Found) bool {
	return a.Whole == b.Whole && bytes.Equal(a.Snapshot, b.Snapshot) && slices.EqualFunc(a.Records, b.Records, bytes.Equal)
}

// refused: Open answers ErrForm, and nothing that is told of the disk changes.
func refused(t *testing.T, what string, d *disk.Disk) {
	t.Helper()
	loose := d.Loose()
	var blocks [][]byte
	for n := range d.Blocks() {
		p, _ := d.Read(n)
		blocks = append(blocks, p)
	}
	for range 2 {
		if k, err := keep.Open(d); k != nil || err != api.ErrForm {
			t.Fatalf("errors: Open of %s: %v, %d; want ErrForm", what, k, err)
		}
		if d.Loose() != loose {
			t.Fatalf("errors: behind a refused Open of %s Loose is %d; was %d", what, d.Loose(), loose)
		}
		for n := range d.Blocks() {
			if p, _ := d.Read(n); !bytes.Equal(p, blocks[n]) {
				t.Fatalf("errors: behind a refused Open of %s the block %d has changed", what, n)
			}
		}
	}
}

// others are records that none takes for its own.
func others() [][]byte {
	l := [][]byte{[]byte("no record of a keep"), []byte("{\"term\": 1, \"vote\": 0}"), told(200, 90), told(5000, 151), bytes.Repeat([]byte{0xff}, 100), bytes.Repeat([]byte{0xc8}, 30)}
	r := rand.New(rand.NewSource(1))
	for range 40 {
		p := make([]byte, 30+r.Intn(200))
		r.Read(p)
		l = append(l, p)
	}
	return l
}

func TestStoresWithOtherRecords(t *testing.T) {
	for at, p := range others() {
		d := blank(t, 1000)
		s, _, _ := store.Open(d)
		if at%2 == 1 {
			s.Append(p)
			s.Sync()
		}
		s.Append(p)
		refused(t, "a store with another record", d)
		d.Crash(at % 2)
		if len(holds(t, d).Records) > 0 {
			refused(t, "a store with another record, behind a crash", d)
		}
		s.Checkpoint(p)
		refused(t, "a store with another snapshot", d)
	}
}

// kept is a disk on which a keep has lived.
func kept(t *testing.T, reset bool) *disk.Disk {
	t.Helper()
	r := begin(t, 1000)
	r.vote(3, 1)
	r.next(1, []byte("a"))
	r.next(2, told(100, 5))
	if reset {
		r.reset(1, 1, told(20, 6))
	}
	r.next(3, told(70, 7))
	r.vote(4, -1)
	r.sync()
	return r.d
}

// One record of others ahead of a keep's, in the midst, or behind them.
func TestOtherRecordsAmongTheKeeps(t *testing.T) {
	for _, p := range others() {
		for _, reset := range []bool{false, true} {
			f := holds(t, kept(t, reset))
			for at := range len(f.Records) + 1 {
				d := blank(t, 1000)
				s, _, _ := store.Open(d)
				if f.Whole {
					s.Checkpoint(f.Snapshot)
				}
				for _, record := range slices.Insert(slices.Clone(f.Records), at, p) {
					s.Append(record)
				}
				refused(t, "a keep's store with another record", d)
			}
		}
	}
}

// A keep that is opened is refused as soon as another one's record stands behind its own, and goes on as if nothing had been when that is lost.
func TestOtherRecordsThatAreLost(t *testing.T) {
	for _, reset := range []bool{false, true} {
		d := kept(t, reset)
		k, _ := keep.Open(d)
		want := heard(t, k)
		s, _, _ := store.Open(d)
		s.Append([]byte("no record of a keep"))
		refused(t, "a keep's store with another record behind it", d)
		d.Crash(0)
		k, err := keep.Open(d)
		if err != api.OK {
			t.Fatalf("P16.2: Open, where another record was lost: %d", err)
		}
		if got := heard(t, k); !got.alike(want) {
			t.Fatalf("P16.2: where another record was lost: %v; want %v", got, want)
		}
	}
}

// goesOn opens a keep on whatever stands on a disk, and does this and that: no call panics, and none answers another error than those of its chapter.
func goesOn(t *testing.T, c *rand.Rand, d *disk.Disk) {
	t.Helper()
	before := holds(t, d)
	k, err := keep.Open(d)
	if err == api.ErrForm {
		if k != nil || !alike(holds(t, d), before) {
			t.Fatalf("errors: beside ErrForm: %v, or what the disk holds has changed", k)
		}
		return
	}
	if k == nil || err != api.OK {
		t.Fatalf("errors: Open of a disk on which anything stands: %v, %d", k, err)
	}
	for range 12 {
		some := told(c.Intn(500), byte(c.Intn(256)))
		base, _, _ := k.Base()
		for _, err := range []api.Errno{k.Vote(k.Term(), c.Intn(5)-1), k.Put(k.Last()+1, c.Intn(9), some), k.Put(base+1, 3, some), k.Sync()} {
			if err != api.OK && err != api.ErrFull {
				t.Fatalf("errors: a call on a disk on which anything stands: %d", err)
			}
		}
		if c.Intn(4) == 0 && base < maxIndex {
			k.Reset(base+1, 3, some)
		}
		heard(t, k)
		k.Entry(c.Intn(9))
	}
	d.Crash(c.Intn(d.Loose() + 2))
	if k, err := keep.Open(d); k == nil || err != api.OK {
		t.Fatalf("P16.2: a keep isn't opened again behind a crash: %d", err)
	}
}

func TestBytesByChance(t *testing.T) {
	c := rand.New(rand.NewSource(2))
	for turn := range 300 {
		d := blank(t, 1+c.Intn(200))
		for n := range d.Blocks() {
			p := make([]byte, api.BlockSize)
			if turn%2 == 0 {
				c.Read(p)
			} else {
				p = bytes.Repeat([]byte{byte(turn)}, api.BlockSize)
			}
			d.Write(n, p)
		}
		goesOn(t, c, d)
	}
}

// bent is a keep's record or snapshot with some change.
func bent(c *rand.Rand, p []byte) []byte {
	p = bytes.Clone(p)
	switch {
	case len(p) == 0 || c.Intn(5) == 0:
		return append(p, byte(c.Intn(256)))
	case c.Intn(4) == 0:
		return p[:c.Intn(len(p))]
	case c.Intn(4) == 0:
		at := c.Intn(len(p))
		return slices.Insert(p, at, []byte{0xc7, 0xff, 0, 0xc8, 1}[c.Intn(5)])
	}
	for range 1 + c.Intn(2) {
		p[c.Intn(len(p))] = []byte{0, 1, byte(c.Intn(256)), 0xc0, 0xc7, 0xff}[c.Intn(6)]
	}
	return p
}

// Stores of keeps with records that are bent, left out, doubled, exchanged: whether it is one of a keep or not, there is no panic.
func TestBentRecords(t *testing.T) {
	c := rand.New(rand.NewSource(3))
	for turn := range 3000 {
		f := holds(t, kept(t, turn%2 == 0))
		d := blank(t, 2000)
		s, _, _ := store.Open(d)
		if f.Whole && c.Intn(8) > 0 {
			if c.Intn(2) == 0 {
				f.Snapshot = bent(c, f.Snapshot)
			}
			s.Checkpoint(f.Snapshot)
		}
		for _, p := range f.Records {
			if c.Intn(4) == 0 {
				p = bent(c, p)
			}
			for range []int{1, 1, 1, 0, 2}[c.Intn(5)] {
				s.Append(p)
			}
		}
		goesOn(t, c, d)
	}
}

// Each byte of what a keep writes turned into each of some others, and each of its beginnings.
func TestEachByteIsBent(t *testing.T) {
	c := rand.New(rand.NewSource(4))
	f := holds(t, kept(t, true))
	try := func(snapshot []byte, records [][]byte) {
		d := blank(t, 500)
		s, _, _ := store.Open(d)
		s.Checkpoint(snapshot)
		for _, p := range records {
			s.Append(p)
		}
		goesOn(t, c, d)
	}
	for at := range f.Snapshot {
		for _, x := range []byte{0, 1, 2, 0x7f, 0xbf, 0xc0, 0xc1, 0xc7, 0xc8, 0xff} {
			p := bytes.Clone(f.Snapshot)
			p[at] = x
			try(p, f.Records)
		}
		try(f.Snapshot[:at], f.Records)
	}
	for which, record := range f.Records {
		for at := range min(len(record), 20) {
			for _, x := range []byte{0, 1, 2, 0x7f, 0xbf, 0xc0, 0xc1, 0xc7, 0xc8, 0xff} {
				p := bytes.Clone(record)
				p[at] = x
				try(f.Snapshot, slices.Replace(slices.Clone(f.Records), which, which+1, p))
			}
			try(f.Snapshot, slices.Replace(slices.Clone(f.Records), which, which+1, record[:at]))
		}
	}
}

// Nobody tells a keep that its disk has crashed: it needn't know what is there, but goes on without panic.
func TestAKeepThatIsNotOpenedAnew(t *testing.T) {
	c := rand.New(rand.NewSource(5))
	for range 100 {
		r := lived(t)
		for range 20 {
			r.k.Put(r.k.Last()+1, 1, told(c.Intn(300), 1))
			r.d.Crash([]int{0, 1, math.MaxInt}[c.Intn(3)])
			r.k.Vote(r.k.Term(), c.Intn(9))
			if c.Intn(5) == 0 {
				r.k.Reset(r.k.Last(), 1, told(c.Intn(300), 2))
			}
		}
		if k, err := keep.Open(r.d); (k == nil) != (err != api.OK) || err != api.OK && err != api.ErrForm {
			t.Fatalf("errors: Open behind calls of a keep that wasn't opened anew: %v, %d", k, err)
		}
	}
}
