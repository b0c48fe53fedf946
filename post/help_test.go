package post_test

import (
	"bytes"
	"cmp"
	"slices"
	"testing"

	"furlong/api"
	"furlong/post"
)

// parcel is one that lies in the model's post.
type parcel struct {
	ticket, from, to int
	data             []byte
}

// model is the document's post: all parcels that lie there, by their tickets.
type model struct {
	parcels []parcel
	last    int
}

func (m *model) find(ticket int) int {
	return slices.IndexFunc(m.parcels, func(p parcel) bool { return p.ticket == ticket })
}

func (m *model) on(from, to int) []parcel {
	var l []parcel
	for _, p := range m.parcels {
		if p.from == from && p.to == to {
			l = append(l, p)
		}
	}
	return l
}

func (m *model) handIn(from, to int, data []byte) (int, api.Errno) {
	if len(m.on(from, to)) >= 1024 {
		return 0, api.ErrFull
	}
	m.last++
	m.parcels = append(m.parcels, parcel{m.last, from, to, bytes.Clone(data)})
	return m.last, api.OK
}

func (m *model) send(from, to int, data []byte) (int, api.Errno) {
	switch {
	case from == to:
		return 0, api.ErrArg
	case len(data) > 1048576:
		return 0, api.ErrLong
	}
	return m.handIn(from, to, data)
}

func (m *model) open(ticket int) ([]byte, api.Errno) {
	at := m.find(ticket)
	if at < 0 {
		return nil, api.ErrNone
	}
	data := m.parcels[at].data
	m.parcels = slices.Delete(m.parcels, at, at+1)
	return data, api.OK
}

func (m *model) copies(ticket int) (int, api.Errno) {
	at := m.find(ticket)
	if at < 0 {
		return 0, api.ErrNone
	}
	return m.handIn(m.parcels[at].from, m.parcels[at].to, m.parcels[at].data)
}

func (m *model) at(from, to, k int) (int, api.Errno) {
	if l := m.on(from, to); k >= 0 && k < len(l) {
		return l[k].ticket, api.OK
	}
	return 0, api.ErrNone
}

func (m *model) ways() []post.Way {
	var l []post.Way
	for _, p := range m.parcels {
		at := slices.IndexFunc(l, func(w post.Way) bool { return w.From == p.from && w.To == p.to })
		if at < 0 {
			l = append(l, post.Way{From: p.from, To: p.to})
			at = len(l) - 1
		}
		l[at].Count++
	}
	slices.SortFunc(l, func(a, b post.Way) int {
		return cmp.Or(cmp.Compare(a.From, b.From), cmp.Compare(a.To, b.To))
	})
	return l
}

// run is a post beside its model.
type run struct {
	t *testing.T
	p *post.Post
	m model
}

func begin(t *testing.T) *run {
	t.Helper()
	p := post.New()
	if p == nil {
		t.Fatal("P17.1: New answers nil")
	}
	r := &run{t: t, p: p}
	r.same("New")
	return r
}

// same asks for Ways and Last.
func (r *run) same(what string) {
	r.t.Helper()
	for range 2 { // P2: the second time as the first time
		if got := r.p.Last(); got != r.m.last {
			r.t.Fatalf("P17.1: behind %s Last is %d; want %d", what, got, r.m.last)
		}
		if got, want := r.p.Ways(), r.m.ways(); !slices.Equal(got, want) {
			r.t.Fatalf("P17.1: behind %s Ways are %v; want %v", what, got, want)
		}
	}
}

// lies asks for each parcel's ticket, and for some that aren't there.
func (r *run) lies() {
	r.t.Helper()
	for _, w := range r.m.ways() {
		for k := -1; k <= w.Count; k++ {
			r.at(w.From, w.To, k)
		}
		r.at(w.To, w.From, 0)
	}
}

func (r *run) send(from, to int, data []byte) int {
	r.t.Helper()
	want, wantErr := r.m.send(from, to, data)
	got, err := r.p.Send(from, to, data)
	if got != want || err != wantErr {
		r.t.Fatalf("P17.1: Send(%d, %d, %d bytes): %d, %d; want %d, %d", from, to, len(data), got, err, want, wantErr)
	}
	r.same("Send")
	return got
}

func (r *run) open(ticket int) {
	r.t.Helper()
	want, wantErr := r.m.open(ticket)
	got, err := r.p.Open(ticket)
	if !bytes.Equal(got, want) || err != wantErr {
		r.t.Fatalf("P17.1: Open(%d): %d bytes %.80x, %d; want %d bytes %.80x, %d", ticket, len(got), got, err, len(want), want, wantErr)
	}
	r.same("Open")
}

func (r *run) burn(ticket int) {
	r.t.Helper()
	_, want := r.m.open(ticket)
	if err := r.p.Burn(ticket); err != want {
		r.t.Fatalf("P17.1: Burn(%d): %d; want %d", ticket, err, want)
	}
	r.same("Burn")
}

func (r *run) copies(ticket int) int {
	r.t.Helper()
	want, wantErr := r.m.copies(ticket)
	got, err := r.p.Copy(ticket)
	if got != want || err != wantErr {
		r.t.Fatalf("P17.1: Copy(%d): %d, %d; want %d, %d", ticket, got, err, want, wantErr)
	}
	r.same("Copy")
	return got
}

func (r *run) at(from, to, k int) int {
	r.t.Helper()
	want, wantErr := r.m.at(from, to, k)
	got, err := r.p.At(from, to, k)
	if got != want || err != wantErr {
		r.t.Fatalf("P17.1: At(%d, %d, %d): %d, %d; want %d, %d", from, to, k, got, err, want, wantErr)
	}
	return got
}

// told is so many bytes that tell of a mark and of their places.
func told(count int, mark byte) []byte {
	p := make([]byte, count)
	for i := range p {
		p[i] = mark + byte(i*7) + byte(i>>8)
	}
	return p
}
