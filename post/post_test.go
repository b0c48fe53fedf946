package post_test

import (
	"bytes"
	"math"
	"slices"
	"testing"

	"furlong/api"
	"furlong/post"
)

func TestAsTheChapterTells(t *testing.T) {
	p := post.New()
	number := func(what string, got int, err api.Errno, want int) {
		t.Helper()
		if got != want || err != api.OK {
			t.Errorf("P17.1: %s: %d, %d; want %d", what, got, err, want)
		}
	}
	n, err := p.Send(0, 1, []byte("a"))
	number("Send", n, err, 1)
	n, err = p.Send(4, 1, []byte("b"))
	number("Send", n, err, 2)
	n, err = p.Send(0, 1, []byte("c"))
	number("Send", n, err, 3)
	n, err = p.Copy(1)
	number("Copy", n, err, 4)
	n, err = p.At(0, 1, 1)
	number("At", n, err, 3)
	if b, err := p.Open(1); string(b) != "a" || err != api.OK {
		t.Errorf("P17.1: Open(1): %q, %d; want a", b, err)
	}
	if b, err := p.Open(1); len(b) != 0 || err != api.ErrNone {
		t.Errorf("P17.2: Open(1) again: %q, %d; want ErrNone", b, err)
	}
	n, err = p.At(0, 1, 1)
	number("At", n, err, 4)
	if got := p.Ways(); !slices.Equal(got, []post.Way{{From: 0, To: 1, Count: 2}, {From: 4, To: 1, Count: 1}}) {
		t.Errorf("P17.1: Ways: %v", got)
	}
	number("Last", p.Last(), api.OK, 4)
}

func TestSend(t *testing.T) {
	r := begin(t)
	nodes := []int{0, 1, -1, 20, math.MinInt, math.MaxInt}
	for _, from := range nodes {
		for _, to := range nodes {
			for _, count := range []int{0, 1, 300} {
				r.send(from, to, told(count, byte(r.m.last)))
			}
		}
	}
	r.lies()
	r.send(0, 1, told(1048576, 1))
	r.send(0, 1, told(1048577, 1))
	r.send(1, 1, told(1048577, 1)) // ErrArg comes first
	r.send(0, 1, nil)
	for range 3 {
		for ticket := range r.m.last + 3 {
			r.open(ticket)
		}
	}
	if len(r.p.Ways()) != 0 {
		t.Errorf("P17.1: where nothing lies Ways are %v", r.p.Ways())
	}
}

// missing are tickets of parcels that don't lie there.
func (r *run) missing(tickets ...int) {
	r.t.Helper()
	for _, ticket := range append(tickets, 0, -1, math.MinInt, math.MaxInt, r.m.last+1, r.m.last+2) {
		r.open(ticket)
		r.burn(ticket)
		r.copies(ticket)
	}
}

func TestTicketsThatAreNotThere(t *testing.T) {
	r := begin(t)
	r.missing()
	opened := r.send(0, 1, []byte("a"))
	burnt := r.send(0, 1, []byte("b"))
	copied := r.copies(opened)
	r.send(2, 1, []byte("c"))
	r.missing()
	r.open(opened)
	r.burn(burnt)
	r.missing(opened, burnt)
	r.open(copied) // the copy of one that was opened
	r.missing(opened, burnt, copied)
	r.send(0, 1, []byte("d")) // a ticket is never given twice
	r.missing(opened, burnt, copied)
	r.lies()
}

// A ticket that is refused isn't one that was given.
func TestLastBehindErrors(t *testing.T) {
	r := begin(t)
	r.send(1, 1, nil)
	r.send(0, 1, told(1048577, 0))
	r.copies(1)
	if got := r.send(0, 1, nil); got != 1 {
		t.Errorf("P17.1: the first ticket is %d", got)
	}
}

func (r *run) fill(from, to int) {
	r.t.Helper()
	for len(r.m.on(from, to)) < 1024 {
		if r.send(from, to, []byte{byte(r.m.last), byte(r.m.last >> 8)}) == 0 {
			r.t.Fatalf("P17.1: there are %d parcels, and no room for one more", len(r.m.on(from, to)))
		}
	}
}

func TestFullWays(t *testing.T) {
	r := begin(t)
	other := r.send(1, 0, []byte("x"))
	r.send(0, 2, []byte("y"))
	r.fill(0, 1)
	full := func() {
		t.Helper()
		if r.send(0, 1, nil) != 0 || r.copies(r.at(0, 1, 0)) != 0 || r.copies(r.at(0, 1, 1023)) != 0 {
			t.Fatalf("errors: a full way takes one more")
		}
		r.at(0, 1, 1024)
	}
	full()
	r.send(0, 1, told(1048577, 0)) // ErrLong comes first
	r.copies(r.m.last + 1)         // and ErrNone
	for _, k := range []int{0, 1023, 500} {
		if r.send(1, 0, nil) == 0 || r.copies(other) == 0 || r.send(0, 2, nil) == 0 || r.send(0, 3, nil) == 0 { // other ways feel nothing
			t.Fatalf("errors: a way isn't full where another one is")
		}
		r.open(r.at(0, 1, k))
		r.send(0, 1, []byte("in its place"))
		full()
		r.burn(r.at(0, 1, k))
		r.copies(r.at(0, 1, k/2))
		full()
	}
	r.fill(1, 0)
	r.copies(other)
	r.lies()
	for range 1024 {
		r.open(r.at(0, 1, 0))
	}
	r.open(r.at(0, 1, 0))
	r.fill(0, 1)
	full()
}

func TestAt(t *testing.T) {
	r := begin(t)
	r.at(0, 1, 0)
	for n := range 12 {
		r.send(n%2, 1-n%2, []byte{byte(n)})
		r.send(7, -7, nil)
	}
	for _, k := range []int{math.MinInt, -2, -1, 0, 1, 4, 5, 6, 7, 100, math.MaxInt} {
		r.at(0, 1, k)
		r.at(1, 0, k)
		r.at(0, 0, k)
		r.at(0, 2, k)
		r.at(7, -7, k)
		r.at(-7, 7, k)
		r.at(math.MinInt, math.MaxInt, k)
	}
	r.burn(r.at(0, 1, 3))
	r.lies()
	r.burn(r.at(0, 1, 0))
	r.lies()
	r.burn(r.at(0, 1, 3))
	r.lies()
}

func TestWays(t *testing.T) {
	nodes := []int{3, -5, 0, math.MaxInt, 1, math.MinInt, -1, 20, 10}
	r := begin(t)
	for n, from := range nodes {
		for at := range nodes {
			r.send(from, nodes[(at*4+n)%len(nodes)], []byte{byte(n)})
			r.send(from, nodes[(at*7+n)%len(nodes)], nil)
		}
	}
	r.lies()
	for len(r.m.parcels) > 0 { // the ways vanish one by one
		r.open(r.m.parcels[len(r.m.parcels)*2/3].ticket)
	}
	r.send(-5, 3, nil)
}

// P17.2: whatever goes other ways, what is opened first again and again comes in the order in which it was handed in.
func TestInOrder(t *testing.T) {
	p := post.New()
	var want []byte
	for n := range 250 {
		p.Send(n%3, 5, []byte{byte(n)})
		if n%3 == 1 {
			want = append(want, byte(n))
		}
		p.Send(5, n%3, []byte{byte(n + 100)})
		if n%7 == 0 {
			p.Burn(p.Last())
		}
		if n%50 == 49 {
			ticket, _ := p.At(1, 5, 0)
			p.Copy(ticket)
			want = append(want, want[0])
		}
	}
	var got []byte
	for range len(want) {
		ticket, err := p.At(1, 5, 0)
		b, opens := p.Open(ticket)
		if err != api.OK || opens != api.OK || len(b) != 1 {
			t.Fatalf("P17.2: At and Open: %d, %d, %v", err, opens, b)
		}
		got = append(got, b...)
		p.Send(2, 5, b)
	}
	if !bytes.Equal(got, want) {
		t.Errorf("P17.2: opened were %v; handed in were %v", got, want)
	}
	if _, err := p.At(1, 5, 0); err != api.ErrNone {
		t.Errorf("P17.2: there is more than was handed in: %d", err)
	}
}

func TestNil(t *testing.T) {
	var p *post.Post
	for _, x := range []int{-1, 0, 1, math.MinInt, math.MaxInt} {
		for _, b := range [][]byte{nil, told(3, 1), make([]byte, 1048577)} {
			if n, err := p.Send(x, 1, b); n != 0 || err != api.ErrNil {
				t.Errorf("Nil: Send: %d, %d", n, err)
			}
		}
		if b, err := p.Open(x); len(b) != 0 || err != api.ErrNil {
			t.Errorf("Nil: Open: %v, %d", b, err)
		}
		if err := p.Burn(x); err != api.ErrNil {
			t.Errorf("Nil: Burn: %d", err)
		}
		if n, err := p.Copy(x); n != 0 || err != api.ErrNil {
			t.Errorf("Nil: Copy: %d, %d", n, err)
		}
		if n, err := p.At(x, x, x); n != 0 || err != api.ErrNil {
			t.Errorf("Nil: At: %d, %d", n, err)
		}
	}
	if len(p.Ways()) != 0 || p.Last() != 0 {
		t.Errorf("Nil: Ways %v, Last %d", p.Ways(), p.Last())
	}
}

// P1 holds for a post that doesn't come from New, too.
func TestNotFromNew(t *testing.T) {
	for first := range 5 {
		p := new(post.Post)
		for at := range 5 {
			switch (first + at) % 5 {
			case 0:
				p.Send(0, 1, []byte("a"))
			case 1:
				p.Copy(1)
			case 2:
				p.At(0, 1, 0)
			case 3:
				p.Burn(1)
			case 4:
				p.Open(1)
			}
			p.Ways()
			p.Last()
		}
	}
}

// What one post is told another one doesn't know.
func TestTwoPostsStandAlone(t *testing.T) {
	a, b := begin(t), begin(t)
	for n := range 20 {
		a.send(0, 1, told(n, 1))
		b.send(1, 0, told(n, 2))
		b.copies(n / 2)
		a.open(n - 3)
		a.lies()
		b.lies()
	}
}
