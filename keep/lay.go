package keep

import (
	"furlong/api"
	"furlong/strip"
)

// What a record begins with. They are greater than need be, so that records of others hardly begin with them.
const (
	voteMark = 0x6b65 + iota
	putMark
	wholeMark
)

const (
	maxPiece      = 65536            // of a store's record
	maxCheckpoint = api.MaxBytes / 2 // of a store's snapshot
)

func lay(b []byte, numbers ...int) []byte {
	for _, n := range numbers {
		b = append(b, strip.LayInt(nil, int64(n))...)
	}
	return b
}

func layText(b, p []byte) []byte {
	return append(b, strip.LayBytes(nil, p)...)
}

func layVote(term, vote int) []byte {
	return lay(nil, voteMark, term, vote)
}

// layPut: back is how far the entry stands ahead of the one that would be the next: a lesser number than its index, so that a record is short.
func layPut(back, term int, data []byte) []byte {
	return append(lay(nil, putMark, back, term), data...)
}

// lay: the whole state, with its length ahead, by which a reader knows how many pieces it was cut into.
func (s *state) lay() []byte {
	b := lay(nil, s.term, s.voted, s.base, s.baseTerm)
	b = layText(b, s.snapshot)
	for _, e := range s.entries {
		b = layText(lay(b, e.term), e.data)
	}
	return append(lay(nil, wholeMark, len(b)), b...)
}

// cut: what goes into a store's snapshot, and what must go into records behind it.
func cut(b []byte) ([]byte, [][]byte) {
	first, b := b[:min(len(b), maxCheckpoint)], b[min(len(b), maxCheckpoint):]
	var rest [][]byte
	for len(b) > 0 {
		size := min(len(b), maxPiece)
		rest = append(rest, b[:size])
		b = b[size:]
	}
	return first, rest
}
