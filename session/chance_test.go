package session_test

import (
	"maps"
	"math"
	"math/rand"
	"slices"
	"testing"

	"furlong/api"
	"furlong/audit"
	"furlong/session"
	"furlong/table"
)

// dice makes entries by chance, of so few things that they meet each other often.
type dice struct{ *rand.Rand }

func (r dice) command() api.Command {
	id := r.Intn(40)
	switch r.Intn(10) {
	case 0, 1, 2:
		return submit(id, 1+r.Intn(3), 1+r.Int63n(3), r.Int63n(4))
	case 3:
		return kill(id)
	case 4:
		return renew(1+r.Intn(3), r.Intn(60))
	case 5:
		return api.Command{Kind: api.Finish, Id: id, Inc: 1, Since: r.Int63n(20), Node: api.Node{Id: 1 + r.Intn(2)}}
	case 6:
		return api.Command{Kind: api.SetQueue, Queue: q(r.Intn(3), 0, 1+r.Int63n(3), v(r.Int63n(9), r.Int63n(20)))}
	case 7:
		return []api.Command{{}, {Kind: -5}, {Kind: api.Part, Id: 1 + r.Intn(3)}, join(1+r.Intn(4), 2, 8)}[r.Intn(4)]
	}
	return round()
}

func (r dice) gap() int64 {
	if r.Intn(9) == 0 {
		return []int64{-1, math.MinInt64, math.MaxInt64, 41}[r.Intn(4)]
	}
	return r.Int63n(9)
}

func (r dice) entries(n int) []api.Entry {
	var l []api.Entry
	seqs := map[int]int{}
	for range n {
		client := r.Intn(7) - 2
		if r.Intn(2) == 0 {
			seqs[client] += 1 + r.Intn(10)/8
		}
		l = append(l, entry(r.gap(), client, seqs[client]-r.Intn(6)/5, r.command()))
	}
	return l
}

// model is a book, kept plainly.
type model struct {
	state   api.State
	answers map[int]map[int]api.Answer // by client and Seq, all that were ever applied
	counts  map[string]int
}

func modelOf(s api.State) *model {
	return &model{s, map[int]map[int]api.Answer{}, map[string]int{}}
}

func (m *model) apply(c api.Command) api.Answer {
	s, a := table.Apply(m.state, c)
	m.state = s
	return a
}

func (m *model) step(e api.Entry) api.Answer {
	if s, err := table.Elapse(m.state, e.Gap); err == api.OK {
		m.state = s
	} else {
		m.counts["gaps that are refused"]++
	}
	if e.Client < 0 {
		m.counts["entries of no client"]++
		return m.apply(e.Command)
	}
	known := m.answers[e.Client]
	greatest := slices.Max(append(slices.Collect(maps.Keys(known)), 0))
	answer, was := known[e.Seq]
	switch {
	case was && e.Seq == greatest:
		m.counts["entries again"]++
		return answer
	case e.Seq <= greatest:
		m.counts["stale entries"]++
		return api.Answer{Err: api.ErrStale}
	}
	m.counts["requests"]++
	answer = m.apply(e.Command)
	if known == nil {
		known = map[int]api.Answer{}
		m.answers[e.Client] = known
	}
	known[e.Seq] = answer
	return answer
}

func (m *model) book() session.Book {
	b := session.Book{State: m.state}
	for _, client := range slices.Sorted(maps.Keys(m.answers)) {
		seq := slices.Max(slices.Collect(maps.Keys(m.answers[client])))
		b.Last = append(b.Last, session.Last{Client: client, Seq: seq, Answer: m.answers[client][seq]})
	}
	return b
}

// started is a state with two nodes.
func started(t *testing.T) api.State {
	t.Helper()
	s, _ := table.Apply(home(t), join(1, 2, 8))
	s, _ = table.Apply(s, join(2, 4, 8))
	return s
}

func TestEntriesByChance(t *testing.T) {
	r := dice{rand.New(rand.NewSource(14))}
	counts := map[string]int{}
	for range 60 {
		s := started(t)
		b, m := session.New(s), modelOf(s)
		for _, e := range r.entries(120) {
			next, answer := session.Step(b, e)
			want := m.step(e)
			if !same(answer, want) || !same(next, m.book()) {
				t.Fatalf("P13.1: Step of %v to\n%v is\n%v, %v; want\n%v, %v", e, b, next, answer, m.book(), want)
			}
			if wrong := audit.Check(next.State); len(wrong) > 0 {
				t.Fatalf("P6, P12.2: behind %v: %v of %v", e, wrong, next.State)
			}
			b = next
		}
		for what, n := range m.counts {
			counts[what] += n
		}
	}
	for _, what := range []string{"gaps that are refused", "entries of no client", "entries again", "stale entries", "requests"} {
		if counts[what] < 300 {
			t.Errorf("there are only %d %s", counts[what], what)
		}
	}
}

// inParts folds entries in parts of n.
func inParts(t *testing.T, b session.Book, l []api.Entry, n int) (session.Book, []api.Answer) {
	t.Helper()
	var answers []api.Answer
	for part := range slices.Chunk(l, n) {
		next, told := folded(t, "a part", b, part)
		b, answers = next, append(answers, told...)
	}
	return b, answers
}

func TestFoldsInParts(t *testing.T) {
	r := dice{rand.New(rand.NewSource(15))}
	for range 12 {
		l := r.entries(40)
		s := started(t)
		b, answers := folded(t, "at once", session.New(s), l)
		m := modelOf(s)
		var want []api.Answer
		for _, e := range l {
			want = append(want, m.step(e))
		}
		if !same(answers, want) || !same(b, m.book()) {
			t.Fatalf("P13.1: Fold of %v = %v, %v; want %v, %v", l, b, answers, m.book(), want)
		}
		for n := 1; n <= len(l); n += 1 + n/2 {
			other, told := inParts(t, session.New(s), l, n)
			if !same(b, other) || !same(answers, told) {
				t.Fatalf("P13.1: Fold in parts of %d = %v, %v; want %v, %v", n, other, told, b, answers)
			}
		}
	}
}

func TestFoldStepByStep(t *testing.T) {
	r := dice{rand.New(rand.NewSource(16))}
	l := r.entries(100)
	b := session.New(started(t))
	all, answers := session.Fold(b, l)
	for at, e := range l {
		next, answer := stepped(t, "step by step", b, e)
		if !same(answer, answers[at]) {
			t.Fatalf("P13.1: Fold answers %v to the entry %d; want %v", answers[at], at, answer)
		}
		b = next
	}
	if !same(b, all) {
		t.Errorf("P13.1: Fold = %v; want %v", all, b)
	}
}

func TestFoldOfNothing(t *testing.T) {
	for _, b := range []session.Book{{}, session.New(home(t)), lived(t)} {
		for _, l := range [][]api.Entry{nil, {}} {
			next, answers := folded(t, "nothing", b, l)
			if !same(next, b) || len(answers) > 0 {
				t.Errorf("P13.1: Fold of nothing into %v = %v, %v", b, next, answers)
			}
		}
	}
}

// P4: however often a request comes, until its client has another one: each answer is the first one's, and nothing else changes.
func TestEachRequestOnce(t *testing.T) {
	r := dice{rand.New(rand.NewSource(17))}
	again := 0
	for range 60 {
		var once, often []api.Entry
		var first []int // of each of often: which one of once it is
		latest := map[int]int{}
		for seq := range 60 {
			client := r.Intn(4)
			e := entry(r.Int63n(5), client, seq+1, r.command())
			once = append(once, e)
			latest[client] = seq
			often, first = append(often, e), append(first, seq)
			for range r.Intn(3) {
				if seq, ok := latest[r.Intn(4)]; ok {
					e := once[seq]
					e.Gap = 0
					often, first = append(often, e), append(first, seq)
					again++
				}
			}
		}
		b, answers := session.Fold(session.New(started(t)), once)
		other, told := session.Fold(session.New(started(t)), often)
		if !same(b, other) {
			t.Fatalf("P4: requests that come again change the book: %v; want %v", other, b)
		}
		for at, seq := range first {
			if !same(told[at], answers[seq]) {
				t.Fatalf("P4: the request %v is answered %v; want %v", often[at], told[at], answers[seq])
			}
		}
	}
	if again < 1000 {
		t.Errorf("only %d requests come again", again)
	}
}
