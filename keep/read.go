package keep

import (
	"furlong/api"
	"furlong/store"
	"furlong/strip"
)

// read tells the place behind the numbers.
func read(b []byte, at int, numbers ...*int) (int, bool) {
	for _, n := range numbers {
		x, next, err := strip.ReadInt(b, at)
		if err != api.OK {
			return 0, false
		}
		*n, at = int(x), next
	}
	return at, true
}

// readFound: the state that a store holds, if it is one of a keep.
func readFound(f store.Found) (state, bool) {
	s, records := blank(), f.Records
	if f.Whole {
		b, behind, ok := join(f.Snapshot, records)
		if !ok || !s.readWhole(b) {
			return state{}, false
		}
		records = behind
	}
	for _, p := range records {
		if !s.readRecord(p) {
			return state{}, false
		}
	}
	return s, true
}

// join undoes cut: the whole state, and the records that aren't pieces of it.
func join(b []byte, records [][]byte) ([]byte, [][]byte, bool) {
	var mark, size int
	at, ok := read(b, 0, &mark, &size)
	if !ok || mark != wholeMark {
		return nil, nil, false
	}
	b = b[at:]
	for len(b) < size && len(records) > 0 {
		b = append(b, records[0]...)
		records = records[1:]
	}
	return b, records, len(b) == size
}

func (s *state) readWhole(b []byte) bool {
	var term, voted, base, baseTerm int
	at, ok := read(b, 0, &term, &voted, &base, &baseTerm)
	if !ok || !s.mayVote(term, voted) || !s.mayReset(base, baseTerm) {
		return false
	}
	snapshot, at, err := strip.ReadBytes(b, at)
	if err != api.OK || len(snapshot) > maxSnapshot {
		return false
	}
	s.vote(term, voted)
	*s = s.reset(base, baseTerm, snapshot)
	for at < len(b) {
		if at, ok = s.readEntry(b, at); !ok {
			return false
		}
	}
	return true
}

func (s *state) readEntry(b []byte, at int) (int, bool) {
	var term int
	at, ok := read(b, at, &term)
	if !ok {
		return 0, false
	}
	data, at, err := strip.ReadBytes(b, at)
	if err != api.OK || !s.mayPut(s.last()+1, term, data) {
		return 0, false
	}
	s.put(s.last()+1, term, data)
	return at, true
}

func (s *state) readRecord(p []byte) bool {
	var mark int
	at, ok := read(p, 0, &mark)
	switch {
	case ok && mark == voteMark:
		return s.readVote(p, at)
	case ok && mark == putMark:
		return s.readPut(p, at)
	}
	return false
}

func (s *state) readVote(p []byte, at int) bool {
	var term, vote int
	at, ok := read(p, at, &term, &vote)
	if !ok || at != len(p) || !s.mayVote(term, vote) {
		return false
	}
	s.vote(term, vote)
	return true
}

func (s *state) readPut(p []byte, at int) bool {
	var back, term int
	at, ok := read(p, at, &back, &term)
	if !ok || !s.mayPut(s.last()+1-back, term, p[at:]) {
		return false
	}
	s.put(s.last()+1-back, term, p[at:])
	return true
}
