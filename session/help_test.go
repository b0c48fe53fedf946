package session_test

import (
	"testing"

	"furlong/api"
	"furlong/session"
	"furlong/table"
)

func v(cpu, mem int64) api.Vec { return api.Vec{CPU: cpu, Mem: mem} }

func q(id, parent int, weight int64, quota api.Vec) api.Queue {
	return api.Queue{Id: id, Parent: parent, Weight: weight, Quota: quota}
}

func submit(id, queue int, cpu, mem int64) api.Command {
	return api.Command{Kind: api.Submit, Task: api.Task{Id: id, Queue: queue, Need: v(cpu, mem), Tickets: []int{1, 2}}}
}

func kill(id int) api.Command { return api.Command{Kind: api.Kill, Id: id} }

func join(id, cores int, mem int64) api.Command {
	return api.Command{Kind: api.Join, Node: api.Node{Id: id, Cores: cores, Mem: mem, Inc: 1}}
}

func renew(id, beat int) api.Command {
	return api.Command{Kind: api.Renew, Id: id, Inc: 1, Beat: beat}
}

func round() api.Command { return api.Command{Kind: api.Round} }

func entry(gap int64, client, seq int, c api.Command) api.Entry {
	return api.Entry{Gap: gap, Client: client, Seq: seq, Command: c}
}

// home is the state of the document's examples: Long is 40, Patience 10.
func home(t *testing.T) api.State {
	t.Helper()
	most := v(6, 16)
	s, err := table.New([]api.Queue{q(0, -1, 1, most), q(1, 0, 1, most), q(2, 0, 2, most)}, 40, 10)
	if err != api.OK {
		t.Fatalf("the state of the examples is refused: %d", err)
	}
	return s
}

// lived is a book with something in each list of its state, and with answers that have lists.
func lived(t *testing.T) session.Book {
	t.Helper()
	s := home(t)
	s.Queues[0].Min, s.Queues[1].Min = v(5, 5), v(5, 5)
	b, answers := session.Fold(session.New(s), []api.Entry{
		entry(0, -1, 0, join(1, 2, 8)), entry(1, -1, 0, join(2, 4, 8)),
		entry(1, 4, 1, submit(20, 2, 1, 1)), entry(0, 4, 2, submit(21, 2, 1, 2)), entry(0, 9, 7, submit(22, 2, 2, 1)),
		entry(0, 4, 3, round()), entry(1, 7, 1, round()), entry(1, 8, 1, round()),
		entry(0, 0, 5, submit(1, 1, 3, 3)), entry(0, 1, 1, kill(21)), entry(2, 9, 8, renew(1, 1)), entry(0, 3, 1, renew(2, 1)),
		entry(0, 6, 2, submit(23, 9, 1, 1)), entry(1, -1, 0, round()),
	})
	for at, a := range answers {
		if (a.Err != api.OK) != (at == 12) {
			t.Fatalf("the answer %d of a book's life is %v", at, a)
		}
	}
	if len(b.State.Hungry) == 0 || len(b.State.Leases) != 3 || len(b.Last) != 8 {
		t.Fatalf("the book has lived too little: %v", b)
	}
	return b
}

// stepped asks twice (P2), with spare room in all that is handed in, and looks at the memory.
func stepped(t *testing.T, what string, b session.Book, e api.Entry) (session.Book, api.Answer) {
	t.Helper()
	given, told := roomy(b), roomy(e)
	before, toldBefore := whole(given), whole(told)
	next, answer := session.Step(given, told)
	other, second := session.Step(given, told)
	if !same(next, other) || !same(answer, second) {
		t.Fatalf("P2: %s: Step answers %v, %v, then %v, %v", what, next, answer, other, second)
	}
	unshared(t, what, &given, &told, &next, &answer, &other, &second)
	if !same(whole(given), before) || !same(whole(told), toldBefore) {
		t.Fatalf("memory: %s changes what is handed in", what)
	}
	return next, answer
}

// folded asks so.
func folded(t *testing.T, what string, b session.Book, l []api.Entry) (session.Book, []api.Answer) {
	t.Helper()
	given, told := roomy(b), roomy(l)
	before, toldBefore := whole(given), whole(told)
	next, answers := session.Fold(given, told)
	other, second := session.Fold(given, told)
	if !same(next, other) || !same(answers, second) {
		t.Fatalf("P2: %s: Fold answers %v, %v, then %v, %v", what, next, answers, other, second)
	}
	unshared(t, what, &given, &told, &next, &answers, &other, &second)
	if !same(whole(given), before) || !same(whole(told), toldBefore) {
		t.Fatalf("memory: %s changes what is handed in", what)
	}
	return next, answers
}

// run is a book that entries go into.
type run struct {
	t *testing.T
	b session.Book
}

func begin(t *testing.T) *run {
	t.Helper()
	r := &run{t, session.New(home(t))}
	r.whoever(entry(0, -1, 0, join(1, 2, 8)), api.Answer{Node: 1})
	r.whoever(entry(0, -1, 0, join(2, 4, 8)), api.Answer{Node: 2})
	return r
}

// want asks for an answer, and for a book: what the table makes of the state, and these requests.
func (r *run) want(what string, e api.Entry, a api.Answer, s api.State, last []session.Last) {
	r.t.Helper()
	b, answer := stepped(r.t, what, r.b, e)
	if !same(answer, a) {
		r.t.Fatalf("P13.1: %s: the answer is %v; want %v", what, answer, a)
	}
	if !same(b.State, s) {
		r.t.Fatalf("P13.1: %s: the state is\n%v; want\n%v", what, b.State, s)
	}
	if !same(b.Last, last) {
		r.t.Fatalf("P13.1: %s: the requests are\n%v; want\n%v", what, b.Last, last)
	}
	r.b = b
}

// later is the state behind a gap, where the table lets it pass.
func (r *run) later(gap int64) api.State {
	s, err := table.Elapse(r.b.State, gap)
	if err != api.OK {
		return r.b.State
	}
	return s
}

// applied is the state behind a command, too.
func (r *run) applied(e api.Entry) api.State {
	s, _ := table.Apply(r.later(e.Gap), e.Command)
	return s
}

// whoever: an entry of no client is applied, and no request is noted.
func (r *run) whoever(e api.Entry, a api.Answer) {
	r.t.Helper()
	r.want("an entry of no client", e, a, r.applied(e), r.b.Last)
}

// does: a client's entry is applied, and is its last one then.
func (r *run) does(what string, e api.Entry, a api.Answer) {
	r.t.Helper()
	var last []session.Last
	noted := false
	mine := session.Last{Client: e.Client, Seq: e.Seq, Answer: a}
	for _, l := range r.b.Last {
		if l.Client >= e.Client && !noted {
			last, noted = append(last, mine), true
		}
		if l.Client != e.Client {
			last = append(last, l)
		}
	}
	if !noted {
		last = append(last, mine)
	}
	r.want(what, e, a, r.applied(e), last)
}

// tells: an answer, and nothing but time has changed.
func (r *run) tells(what string, e api.Entry, a api.Answer) {
	r.t.Helper()
	r.want(what, e, a, r.later(e.Gap), r.b.Last)
}

func (r *run) stale(what string, e api.Entry) {
	r.t.Helper()
	r.tells(what, e, api.Answer{Err: api.ErrStale})
}
