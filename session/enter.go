package session

import (
	"cmp"
	"slices"

	"furlong/api"
	"furlong/deep"
	"furlong/table"
)

func copyOf(b Book) Book {
	c := New(b.State)
	c.Last = slices.Clone(b.Last)
	for at := range c.Last {
		c.Last[at].Answer = deep.Answer(c.Last[at].Answer)
	}
	return c
}

// enter writes into the book itself: it must be a copy that nobody else has.
func (b *Book) enter(e api.Entry) api.Answer {
	b.elapse(e.Gap)
	if e.Client < 0 {
		return b.apply(e.Command)
	}
	last, known := b.last(e.Client)
	switch {
	case known && e.Seq == last.Seq:
		return deep.Answer(last.Answer)
	case e.Seq < last.Seq || e.Seq < 1:
		return api.Answer{Err: api.ErrStale}
	}
	answer := b.apply(e.Command)
	b.note(Last{Client: e.Client, Seq: e.Seq, Answer: deep.Answer(answer)})
	return answer
}

// elapse lets no time pass where the table refuses it.
func (b *Book) elapse(gap int64) {
	if s, err := table.Elapse(b.State, gap); err == api.OK {
		b.State = s
	}
}

func (b *Book) apply(c api.Command) api.Answer {
	s, answer := table.Apply(b.State, c)
	b.State = s
	return answer
}

// last: a client's last request; one of the Seq 0, if there is none.
func (b *Book) last(client int) (Last, bool) {
	at, known := b.find(client)
	if !known {
		return Last{}, false
	}
	return b.Last[at], true
}

func (b *Book) note(l Last) {
	at, known := b.find(l.Client)
	if !known {
		b.Last = slices.Insert(b.Last, at, Last{})
	}
	b.Last[at] = l
}

// find tells where a client stands, or would stand, and whether it is there.
func (b *Book) find(client int) (int, bool) {
	return slices.BinarySearchFunc(b.Last, client, func(l Last, client int) int { return cmp.Compare(l.Client, client) })
}
