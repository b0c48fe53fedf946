package store

import (
	"furlong/api"
	"furlong/strip"
)

// The kinds of pages, from 1 on, so that a block of noughts is none.
const (
	signPage = iota + 1
	partPage
)

const (
	guardBytes = 4
	headBytes  = 1 + 9 + 3 + 1 // the longest that the kind, the generation, the number and the count of bytes may be
	pageBytes  = api.BlockSize - guardBytes - headBytes
)

type block [api.BlockSize]byte

// page is what a block bears.
type page struct {
	kind, generation, number uint64
	data                     []byte
}

func (p page) lay() block {
	b := strip.Lay(nil, p.kind)
	b = strip.Lay(b, p.generation)
	b = strip.Lay(b, p.number)
	b = strip.LayBytes(b, p.data)
	var bare [api.BlockSize - guardBytes]byte
	copy(bare[:], b)
	guarded, _ := strip.Guard(bare[:]) // never too long
	var whole block
	copy(whole[:], guarded)
	return whole
}

// readPage refuses each block that isn't, byte by byte, what lay makes.
func readPage(b block) (page, bool) {
	var p page
	at := 0
	for _, field := range [...]*uint64{&p.kind, &p.generation, &p.number} {
		x, next, err := strip.Read(b[:], at)
		if err != api.OK {
			return page{}, false
		}
		*field, at = x, next
	}
	data, _, err := strip.ReadBytes(b[:], at)
	if err != api.OK || len(data) > pageBytes {
		return page{}, false
	}
	p.data = data
	return p, p.lay() == b
}
