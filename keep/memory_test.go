package keep_test

import (
	"bytes"
	"testing"

	"furlong/api"
)

// scribble writes over bytes and all of their spare room.
func scribble(p []byte) {
	p = p[:cap(p)]
	for i := range p {
		p[i] ^= 0xa5
	}
}

func lived(t *testing.T) *run {
	t.Helper()
	r := begin(t, 4000)
	for n := range 12 {
		r.next(1+n/4, told(n*11, byte(n)))
	}
	r.reset(4, 1, told(300, 8))
	r.next(5, told(40, 9))
	r.vote(6, 2)
	return r
}

// all are the bytes that a keep tells.
func all(r *run) [][]byte {
	_, _, snapshot := r.k.Base()
	l := [][]byte{snapshot}
	for index := r.now().base + 1; index <= r.now().last(); index++ {
		_, data, _ := r.k.Entry(index)
		l = append(l, data)
	}
	return l
}

func TestWhatIsToldIsNewMemory(t *testing.T) {
	r := lived(t)
	for range 2 {
		first, second := all(r), all(r)
		for at, p := range first {
			scribble(p)
			if !bytes.Equal(second[at], all(r)[at]) {
				t.Errorf("memory: two answers share some: %d", at)
			}
			r.same("where an answer was written over")
		}
		for at, p := range second {
			before := bytes.Clone(first[at])
			scribble(p)
			if !bytes.Equal(first[at], before) {
				t.Errorf("memory: two answers share some: %d", at)
			}
		}
		r.same("where answers were written over")
		r.open()
	}
	r.reset(6, 2, told(5, 5))
	r.crash(0)
}

// What was told stays as it was told, whatever the keep and the disk do then.
func TestWhatWasToldStays(t *testing.T) {
	r := lived(t)
	told1 := all(r)
	var want [][]byte
	for _, p := range told1 {
		want = append(want, bytes.Clone(p))
	}
	for index := r.now().last(); index > r.now().base; index-- {
		r.put(index, 7, told(120, 200))
	}
	r.reset(5, 7, told(300, 77))
	r.next(7, told(9, 9))
	r.crash(1)
	for n := range r.d.Blocks() {
		r.d.Write(n, bytes.Repeat([]byte{0xee}, api.BlockSize))
	}
	for at, p := range told1 {
		if !bytes.Equal(p, want[at]) {
			t.Errorf("memory: what was told changes behind the calls that follow: %d", at)
		}
	}
}

func TestWhatIsHandedInIsNeitherKeptNorChanged(t *testing.T) {
	for _, count := range []int{0, 1, 20, 46, 60, 64, 100, 300, 5000} {
		r := begin(t, 4000)
		given := told(count+80, 7)
		p := given[:count] // with spare room
		for turn, do := range []func(){
			func() { r.next(1, p) },
			func() { r.next(1, p) },
			func() { r.put(r.now().last(), 2, p) },
			func() { r.reset(r.now().last()-1, 1, p) },
			func() { r.next(3, p) },
			func() { r.reset(r.now().last()+1, 3, p) },
		} {
			before := bytes.Clone(given)
			do()
			if !bytes.Equal(given, before) {
				t.Fatalf("memory: the call %d changes what is handed in", turn)
			}
			scribble(p)
			r.same("where what was handed in was written over")
			r.open()
		}
		r.crash(0)
	}
}

func TestRefusedIsNotChanged(t *testing.T) {
	r := begin(t, 10)
	for _, count := range []int{3000, maxData, maxData + 1, maxSnapshot, maxSnapshot + 1} {
		p := told(count, 3)
		r.put(1, 1, p)
		r.put(5, 1, p)
		r.reset(1, 1, p)
		r.reset(0, 1, p)
		if !bytes.Equal(p, told(count, 3)) {
			t.Errorf("memory: a refused call changes what is handed in")
		}
		r.same("behind refused calls")
	}
}
