package keep

import (
	"bytes"

	"furlong/api"
)

const (
	maxData     = 60000
	maxIndex    = 1 << 60 // of a Reset
	maxSnapshot = api.MaxBytes / 4
)

type entry struct {
	term int
	data []byte
}

// state is what Votes, Puts and Resets have made.
type state struct {
	term, voted    int
	base, baseTerm int
	snapshot       []byte
	entries        []entry // from base + 1 on
}

func blank() state {
	return state{voted: -1}
}

func (s *state) last() int {
	return s.base + len(s.entries)
}

func (s *state) has(index int) bool {
	return index > s.base && index <= s.last()
}

func (s *state) entry(index int) entry {
	return s.entries[index-s.base-1]
}

func (s *state) mayVote(term, vote int) bool {
	return term >= s.term && vote >= -1 // no term is below 0, so none that is at least the last one is
}

func (s *state) vote(term, vote int) {
	s.term, s.voted = term, vote
}

func (s *state) mayPut(index, term int, data []byte) bool {
	return index > s.base && index <= s.last()+1 && term >= 0 && len(data) <= maxData
}

func (s *state) put(index, term int, data []byte) {
	at := index - s.base - 1
	clear(s.entries[at:]) // so that what is gone isn't held on to
	s.entries = append(s.entries[:at], entry{term: term, data: bytes.Clone(data)})
}

func (s *state) mayReset(index, term int) bool {
	return index > s.base && index <= maxIndex && term >= 0
}

// reset answers another state, for the store may refuse it.
func (s *state) reset(index, term int, snapshot []byte) state {
	next := state{term: s.term, voted: s.voted, base: index, baseTerm: term, snapshot: bytes.Clone(snapshot)}
	if s.has(index) && s.entry(index).term == term {
		next.entries = append(next.entries, s.entries[index-s.base:]...)
	}
	return next
}
