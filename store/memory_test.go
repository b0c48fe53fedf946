package store_test

import (
	"bytes"
	"slices"
	"testing"

	"furlong/api"
	"furlong/store"
)

// scribble writes over bytes and all of their spare room.
func scribble(p []byte) {
	p = p[:cap(p)]
	for i := range p {
		p[i] ^= 0xa5
	}
}

func lived(t *testing.T) *run {
	t.Helper()
	r := begin(t, 1000)
	r.append(told(100, 1))
	r.checkpoint(told(150, 2))
	for n := range 40 {
		r.append(told(n*3, byte(n)))
	}
	r.sync()
	r.append(told(200, 5))
	return r
}

// texts are all bytes that were found.
func texts(f store.Found) [][]byte { return append([][]byte{f.Snapshot}, f.Records...) }

func copies(l [][]byte) [][]byte {
	var all [][]byte
	for _, p := range l {
		all = append(all, bytes.Clone(p))
	}
	return all
}

func alike(a, b [][]byte) bool { return slices.EqualFunc(a, b, bytes.Equal) }

func TestWhatIsFoundIsNewMemory(t *testing.T) {
	r := lived(t)
	_, first, _ := store.Open(r.d)
	s, second, _ := store.Open(r.d)
	r.s, r.safe = s, len(r.records)
	all := append(texts(first), texts(second)...)
	want := copies(all)
	for at, p := range all {
		scribble(p)
		for other := range all {
			if other != at && !bytes.Equal(all[other], want[other]) {
				t.Fatalf("memory: what Open answers shares some: %d and %d", at, other)
			}
		}
		scribble(p)
	}
	for _, p := range all {
		scribble(p)
	}
	first.Records[0], second.Records[1] = []byte{1}, nil
	if !bytes.Equal(second.Records[0], all[len(first.Records)+2]) {
		t.Errorf("memory: two lists of records share some")
	}
	_ = append(first.Records[:1], []byte("x"))
	r.open()
	r.append(told(9, 9))
	r.crash(1000)
}

// What was found stays as it was told, whatever the store and the disk do then.
func TestWhatWasFoundStays(t *testing.T) {
	r := lived(t)
	s, f, _ := store.Open(r.d)
	r.s, r.safe = s, len(r.records)
	want := copies(texts(f))
	r.append(told(30, 200))
	r.crash(1)
	r.checkpoint(told(999, 3))
	r.append(told(999, 4))
	r.checkpoint(told(999, 5))
	for n := range r.d.Blocks() {
		r.d.Write(n, fill(api.BlockSize, 0xee))
	}
	if !alike(texts(f), want) {
		t.Errorf("memory: what was found changes behind the calls that follow")
	}
}

func TestWhatIsHandedInIsNeitherKeptNorChanged(t *testing.T) {
	for _, count := range []int{0, 1, 20, 46, 60, 64, 100, 300, 5000} {
		r := begin(t, 2000)
		given := told(count+80, 7)
		for range 3 {
			p := given[:count] // with spare room
			before := bytes.Clone(given)
			r.append(p)
			r.append(told(5, 5))
			if !bytes.Equal(given, before) {
				t.Fatalf("memory: Append changes what is handed in")
			}
			scribble(p)
			r.open()
			before = bytes.Clone(given)
			r.append(p)
			if len(r.records) > 4 {
				r.checkpoint(p)
			}
			if !bytes.Equal(given, before) {
				t.Fatalf("memory: Append or Checkpoint changes what is handed in")
			}
			scribble(p)
			r.append(told(50, 6)) // into the block in which p may end
			r.open()
		}
		r.crash(0)
	}
}

func TestRefusedIsNotChanged(t *testing.T) {
	for _, blocks := range []int{1, 20} {
		r := begin(t, blocks)
		for _, count := range []int{3000, 65537, api.MaxBytes/2 + 1} {
			p := told(count, 3)
			r.s.Append(p)
			r.s.Checkpoint(p)
			if !bytes.Equal(p, told(count, 3)) {
				t.Errorf("memory: a refused call changes what is handed in")
			}
		}
		r.open()
	}
}
