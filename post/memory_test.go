package post_test

import (
	"bytes"
	"testing"

	"furlong/post"
)

// scribble writes over bytes and all of their spare room.
func scribble(p []byte) {
	p = p[:cap(p)]
	for i := range p {
		p[i] ^= 0xa5
	}
}

func TestWhatIsHandedInIsNeitherKeptNorChanged(t *testing.T) {
	for _, count := range []int{0, 1, 8, 63, 64, 100, 5000} {
		r := begin(t)
		given := told(count+80, 7)
		p := given[:count] // with spare room
		for range 3 {
			before := bytes.Clone(given)
			ticket := r.send(0, 1, p)
			r.copies(ticket)
			if !bytes.Equal(given, before) {
				t.Fatalf("memory: Send changes what is handed in")
			}
			scribble(p)
			r.copies(ticket)
		}
		for ticket := range r.m.last + 1 {
			r.open(ticket)
			scribble(p)
		}
	}
	p := told(1048577, 3)
	post.New().Send(0, 1, p)
	if !bytes.Equal(p, told(1048577, 3)) {
		t.Errorf("memory: a refused Send changes what is handed in")
	}
}

// A parcel, its copies, and copies of these share nothing.
func TestWhatIsOpenedIsNewMemory(t *testing.T) {
	for _, count := range []int{1, 8, 63, 100, 5000} {
		r := begin(t)
		r.send(0, 1, told(count, 1))
		for n := range 5 {
			r.copies(1 + n/2)
			r.send(0, 1, told(count, byte(n)))
		}
		var opened, want [][]byte
		for ticket := 1; ticket <= r.m.last; ticket += 2 {
			b, _ := r.p.Open(ticket)
			r.m.open(ticket)
			opened = append(opened, b)
			scribble(b)
			want = append(want, bytes.Clone(b))
		}
		for ticket := 2; ticket <= r.m.last; ticket += 2 {
			r.open(ticket)
		}
		for at, b := range opened {
			if !bytes.Equal(b, want[at]) {
				t.Errorf("memory: what was opened shares some with another parcel")
			}
		}
	}
}

func TestWaysAreNewMemory(t *testing.T) {
	r := begin(t)
	for n := range 9 {
		r.send(n, 10, nil)
	}
	first, second := r.p.Ways(), r.p.Ways()
	for at := range first {
		first[at] = post.Way{From: 99, To: 98, Count: 97}
	}
	_ = append(first[:1], post.Way{From: 5})
	for at, w := range second {
		if w != (post.Way{From: at, To: 10, Count: 1}) {
			t.Errorf("memory: two answers of Ways share some: %v", w)
		}
	}
	r.same("what was written over")
	r.send(3, 10, nil)
	if second[3].Count != 1 {
		t.Errorf("memory: what Ways answered changes behind the calls that follow")
	}
}
