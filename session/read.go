package session

import (
	"furlong/api"
	"furlong/command"
	"furlong/strip"
)

// reader goes from the front on. At a fault it stays, and tells zeros from then on.
type reader struct {
	p         []byte
	at        int
	err       api.Errno
	misplaced bool // a client isn't above the one ahead
}

// request is a Last whose answer isn't opened yet: a client that is misplaced is told ahead of a fault inside an answer, wherever they stand.
type request struct {
	client, seq int
	answer      []byte
}

func take[T any](r *reader, read func([]byte, int) (T, int, api.Errno)) T {
	var x T
	if r.err == api.OK {
		x, r.at, r.err = read(r.p, r.at)
	}
	return x
}

func (r *reader) state() api.State {
	b := take(r, strip.ReadBytes)
	if r.err != api.OK {
		return api.State{}
	}
	s, _, err := command.DecodeState(b)
	r.err = err
	return s
}

func (r *reader) count() uint64 {
	n := take(r, strip.Read)
	if n > api.MaxTasks {
		r.err = api.ErrLong
		return 0
	}
	return n
}

// requests tells those ahead of the first fault.
func (r *reader) requests() []request {
	var all []request
	ahead := -1 // so that none is below 0
	for range r.count() {
		q := request{client: r.client(ahead), seq: int(take(r, strip.ReadInt)), answer: take(r, strip.ReadBytes)}
		if r.err != api.OK {
			break
		}
		all = append(all, q)
		ahead = q.client
	}
	return all
}

func (r *reader) client(ahead int) int {
	client := int(take(r, strip.ReadInt))
	if r.err == api.OK && client <= ahead {
		r.err, r.misplaced = api.ErrForm, true
	}
	return client
}

func open(requests []request) ([]Last, api.Errno) {
	var all []Last
	for _, q := range requests {
		answer, _, err := command.DecodeAnswer(q.answer)
		if err != api.OK {
			return nil, err
		}
		all = append(all, Last{Client: q.client, Seq: q.seq, Answer: answer})
	}
	return all, api.OK
}
