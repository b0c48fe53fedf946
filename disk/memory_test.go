package disk_test

import (
	"bytes"
	"slices"
	"testing"

	"furlong/api"
)

// scribble writes over bytes and all of their spare room.
func scribble(p []byte) {
	p = p[:cap(p)]
	for i := range p {
		p[i] ^= 0xa5
	}
}

func TestWhatIsReadIsNewMemory(t *testing.T) {
	d := made(t, 3)
	for n := range 3 {
		writes(t, d, n, filled(api.BlockSize, byte(n))...)
	}
	syncs(t, d)
	for n := range 3 {
		first, _ := d.Read(n)
		second, _ := d.Read(n)
		scribble(first)
		if !bytes.Equal(second, filled(api.BlockSize, byte(n))) {
			t.Errorf("memory: two answers of Read share some")
		}
		for other := range 3 {
			reads(t, "behind an answer that was written over", d, other, filled(api.BlockSize, byte(other))...)
		}
		_ = append(second, 1, 2, 3)
		reads(t, "behind an answer that was appended to", d, 2, filled(api.BlockSize, 2)...)
	}
}

// An answer stays as it was told, whatever the disk does then.
func TestAnswersStay(t *testing.T) {
	d := made(t, 2)
	writes(t, d, 0, 1, 2, 3)
	safe, _ := d.Read(0)
	syncs(t, d)
	writes(t, d, 0, 4, 5, 6)
	lost, _ := d.Read(0)
	never, _ := d.Read(1)
	crashes(t, d, 0)
	writes(t, d, 0, 7)
	writes(t, d, 1, 8)
	if !bytes.HasPrefix(safe, []byte{1, 2, 3}) || !bytes.HasPrefix(lost, []byte{4, 5, 6}) || !bytes.Equal(never, make([]byte, api.BlockSize)) {
		t.Errorf("memory: what was told becomes %v, %v, %v", safe, lost, never)
	}
}

// What a crash brings back isn't what was told, or handed in.
func TestWhatIsBroughtBackIsNotShared(t *testing.T) {
	d := made(t, 1)
	given := []byte{1, 2, 3}
	writes(t, d, 0, given...)
	d.Write(0, given)
	syncs(t, d)
	ahead, _ := d.Read(0)
	writes(t, d, 0, 9)
	scribble(ahead)
	scribble(given)
	crashes(t, d, 0)
	reads(t, "brought back", d, 0, 1, 2, 3)
}

func TestWhatIsWrittenIsNeitherKeptNorChanged(t *testing.T) {
	for count := range api.BlockSize + 1 {
		d := made(t, 2)
		p := append(make([]byte, 0, 200), filled(200, 5)...)[:count]
		before := slices.Clone(p[:cap(p)])
		if err := d.Write(1, p); err != api.OK {
			t.Fatalf("P14.1: Write: %d", err)
		}
		if !bytes.Equal(p[:cap(p)], before) {
			t.Fatalf("memory: Write changes what is handed in")
		}
		scribble(p)
		reads(t, "when what was handed in is written over", d, 1, filled(count, 5)...)
		writes(t, d, 1, 77)
		crashes(t, d, 1)
		reads(t, "when what was handed in is written over, behind a Crash", d, 1, filled(count, 5)...)
	}
}

func TestRefusedIsNotKept(t *testing.T) {
	d := made(t, 1)
	p := filled(65, 1)
	d.Write(0, p)
	if !bytes.Equal(p, filled(65, 1)) {
		t.Errorf("memory: a refused Write changes what is handed in")
	}
	reads(t, "behind a refused Write", d, 0)
	loose(t, "behind a refused Write", d, 0)
}
