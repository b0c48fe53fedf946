package store

import (
	"furlong/api"
	"furlong/strip"
)

// The kinds of frames.
const (
	record = iota
	snapshot
)

func layFrame(kind uint64, p []byte) []byte {
	return strip.LayBytes(strip.Lay(nil, kind), p)
}

// readFrame tells a whole frame, and the place behind it.
func readFrame(b []byte, at int) (uint64, []byte, int, bool) {
	kind, at, err := strip.Read(b, at)
	if err != api.OK {
		return 0, nil, 0, false
	}
	p, next, err := strip.ReadBytes(b, at)
	return kind, p, next, err == api.OK
}

// find reads all whole frames; what a crash left of a further one is behind the end of the store.
func (s *Store) find() Found {
	var f Found
	b := s.stream()
	end := 0
reading:
	for {
		kind, p, next, ok := readFrame(b, end)
		switch {
		case ok && kind == record:
			f.Records = append(f.Records, p)
		case ok && kind == snapshot && end == 0:
			f.Whole, f.Snapshot = true, p
		default:
			break reading
		}
		end = next
	}
	s.full = end / pageBytes
	s.tail = append([]byte(nil), b[s.full*pageBytes:end]...)
	return f
}
