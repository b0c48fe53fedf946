package session

import (
	"furlong/api"
	"furlong/command"
	"furlong/strip"
)

// Encode, Decode: a book and its bytes.
func Encode(b Book) ([]byte, api.Errno) {
	state, err := command.EncodeState(b.State)
	switch {
	case err != api.OK:
		return nil, err
	case len(b.Last) > api.MaxTasks:
		return nil, api.ErrLong
	}
	p := append(strip.LayBytes(nil, state), strip.Lay(nil, uint64(len(b.Last)))...)
	for _, l := range b.Last {
		answer, err := command.EncodeAnswer(l.Answer)
		if err != api.OK {
			return nil, err
		}
		p = append(p, layLast(l, answer)...)
		if len(p) > api.MaxBytes { // all answers together may be far above it
			break
		}
	}
	if len(p) > api.MaxBytes {
		return nil, api.ErrLong
	}
	return p, api.OK
}

func layLast(l Last, answer []byte) []byte {
	p := strip.LayInt(nil, int64(l.Client))
	p = strip.LayInt(p, int64(l.Seq))
	return strip.LayBytes(p, answer)
}

func Decode(p []byte) (Book, api.Errno) {
	if len(p) > api.MaxBytes {
		return Book{}, api.ErrLong
	}
	r := &reader{p: p}
	state := r.state()
	requests := r.requests()
	if r.misplaced {
		return Book{}, api.ErrForm
	}
	last, err := open(requests)
	switch {
	case err != api.OK:
		return Book{}, err
	case r.err != api.OK:
		return Book{}, r.err
	case r.at < len(p):
		return Book{}, api.ErrExtra
	}
	return Book{State: state, Last: last}, api.OK
}
