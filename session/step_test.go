package session_test

import (
	"math"
	"testing"

	"furlong/api"
	"furlong/session"
)

func TestNewIsTheStateAndNoClients(t *testing.T) {
	for _, s := range []api.State{{}, home(t), lived(t).State} {
		given := roomy(s)
		before := whole(given)
		b := session.New(given)
		other := session.New(given)
		if !same(b, session.Book{State: s}) || !same(b, other) {
			t.Errorf("P13.1: New of %v = %v", s, b)
		}
		unshared(t, "New", &given, &b, &other)
		if !same(whole(given), before) {
			t.Errorf("memory: New changes what is handed in")
		}
	}
}

func TestEntriesOfNoClient(t *testing.T) {
	r := begin(t)
	r.whoever(entry(1, -1, 1, submit(7, 1, 1, 1)), api.Answer{Task: 7})
	r.whoever(entry(1, -1, 1, submit(7, 1, 1, 1)), api.Answer{Err: api.ErrExists})
	r.whoever(entry(1, -1, 2, submit(8, 1, 1, 1)), api.Answer{Task: 8})
	r.whoever(entry(1, -1, 1, kill(7)), api.Answer{Task: 7})
	r.whoever(entry(0, -2, -3, kill(8)), api.Answer{Task: 8})
	r.whoever(entry(0, math.MinInt64, 0, kill(9)), api.Answer{Err: api.ErrNone})
	r.whoever(entry(0, -1, math.MaxInt64, submit(9, 2, 1, 1)), api.Answer{Task: 9})
	if len(r.b.Last) > 0 || len(r.b.State.Tasks) != 3 {
		t.Errorf("P13.1: the book is %v", r.b)
	}
}

// The chapter's example 1.
func TestTheSameEntryTwice(t *testing.T) {
	r := begin(t)
	r.does("a request", entry(1, 3, 5, submit(7, 1, 1, 1)), api.Answer{Task: 7})
	r.tells("the same one again", entry(1, 3, 5, submit(7, 1, 1, 1)), api.Answer{Task: 7})
	r.stale("Seq 4", entry(1, 3, 4, submit(8, 1, 1, 1)))
	r.tells("the same one again, once more", entry(0, 3, 5, submit(7, 1, 1, 1)), api.Answer{Task: 7})
	r.does("the next one", entry(0, 3, 6, kill(7)), api.Answer{Task: 7})
	r.tells("the next one again", entry(0, 3, 6, kill(7)), api.Answer{Task: 7})
	r.stale("the first one again", entry(0, 3, 5, submit(7, 1, 1, 1)))
	if r.b.State.Now != 3 || r.b.State.Tasks[0].State != api.Killed {
		t.Errorf("P13.1: the state is %v", r.b.State)
	}
}

// A request is known by its Seq, whatever it asks for.
func TestTheSameSeqWithAnotherCommand(t *testing.T) {
	r := begin(t)
	r.does("a request", entry(0, 3, 1, submit(7, 1, 1, 1)), api.Answer{Task: 7})
	r.tells("another one of the same Seq", entry(0, 3, 1, submit(8, 1, 1, 1)), api.Answer{Task: 7})
	r.tells("a command that is none, of the same Seq", entry(0, 3, 1, api.Command{Kind: -1}), api.Answer{Task: 7})
	r.does("the same command of another Seq", entry(0, 3, 2, submit(7, 1, 1, 1)), api.Answer{Err: api.ErrExists})
	r.does("the same Seq of another client", entry(0, 4, 1, submit(8, 1, 1, 1)), api.Answer{Task: 8})
	r.does("the same Seq of the client 0", entry(0, 0, 1, submit(9, 1, 1, 1)), api.Answer{Task: 9})
}

func TestSeqs(t *testing.T) {
	r := begin(t)
	for _, client := range []int{3, 0, math.MaxInt64} {
		for _, seq := range []int{0, -1, -2, math.MinInt64} {
			r.stale("a first Seq below 1", entry(1, client, seq, submit(7, 1, 1, 1)))
		}
	}
	id := 100
	for _, client := range []int{3, 0, math.MaxInt64} {
		for _, seq := range []int{1, 2, 3, 7, 8, 1000, math.MaxInt64 - 1, math.MaxInt64} {
			id++
			if client == 0 && seq < 7 { // its first one is 7
				continue
			}
			r.does("a Seq that is greater", entry(1, client, seq, submit(id, 1, 1, 1)), api.Answer{Task: id})
			r.tells("the last Seq", entry(1, client, seq, submit(id, 1, 1, 1)), api.Answer{Task: id})
			for _, less := range []int{seq - 1, 1, 0, -1, math.MinInt64} {
				if less < seq {
					r.stale("a Seq that is less", entry(0, client, less, submit(id, 1, 1, 1)))
				}
			}
			r.tells("the last Seq, behind stale ones", entry(0, client, seq, submit(id, 1, 1, 1)), api.Answer{Task: id})
		}
	}
}

// What a client was refused is its answer, too, and stays so.
func TestAnswersThatAreErrors(t *testing.T) {
	r := begin(t)
	r.does("no such task", entry(0, 3, 1, kill(7)), api.Answer{Err: api.ErrNone})
	r.whoever(entry(0, -1, 0, submit(7, 1, 1, 1)), api.Answer{Task: 7})
	r.tells("no such task, again, though it is there now", entry(0, 3, 1, kill(7)), api.Answer{Err: api.ErrNone})
	r.does("now it is", entry(0, 3, 2, kill(7)), api.Answer{Task: 7})
	r.does("no command", entry(0, 3, 3, api.Command{}), api.Answer{Err: api.ErrArg})
	r.tells("no command again", entry(0, 3, 3, kill(7)), api.Answer{Err: api.ErrArg})
	r.does("an error of the table that is ErrStale", entry(0, 3, 4, renew(1, 0)), api.Answer{Err: api.ErrStale})
	r.tells("it stands as all others", entry(0, 3, 4, renew(1, 1)), api.Answer{Err: api.ErrStale})
}

// An answer stands as it was, though what it tells of has changed.
func TestAnswersWithLists(t *testing.T) {
	r := begin(t)
	r.whoever(entry(0, -1, 0, submit(7, 1, 2, 1)), api.Answer{Task: 7})
	granted := api.Answer{Task: 7, Node: 1, Cores: []int{0, 1}}
	r.does("a grant", entry(0, 3, 1, round()), granted)
	r.tells("a grant again", entry(5, 3, 1, round()), granted)
	renewed := api.Answer{Node: 1, Leases: []api.Lease{{Task: 7, Queue: 1, Node: 1, Cores: []int{0, 1}, Mem: 1, Until: 45}}}
	r.does("leases", entry(0, 4, 1, renew(1, 1)), renewed)
	r.tells("leases again", entry(44, 4, 1, renew(1, 1)), renewed)
	r.tells("the grant, though the lease has ended", entry(1, 3, 1, round()), granted)
	r.tells("the leases, though they have ended", entry(1, 4, 1, renew(1, 1)), renewed)
	if len(r.b.State.Leases) > 0 {
		t.Errorf("P13.1: there are leases still: %v", r.b.State)
	}
}

func TestClientsComeInAnyOrder(t *testing.T) {
	for _, order := range [][]int{{0, 1, 2, 3, 4}, {4, 3, 2, 1, 0}, {2, 0, 4, 1, 3}, {20, 10, 30, 15, 25}, {math.MaxInt64, 0, 5}} {
		r := begin(t)
		for seq := 1; seq < 4; seq++ {
			for at, client := range order {
				id := 10*seq + at
				r.does("clients in any order", entry(0, client, seq, submit(id, 1, 1, 1)), api.Answer{Task: id})
			}
			for at, client := range order {
				r.tells("clients in any order, again", entry(0, client, seq, round()), api.Answer{Task: 10*seq + at})
			}
		}
		for at := 1; at < len(r.b.Last); at++ {
			if r.b.Last[at].Client <= r.b.Last[at-1].Client {
				t.Errorf("P13.1: clients that don't rise: %v", r.b.Last)
			}
		}
		if len(r.b.Last) != len(order) {
			t.Errorf("P13.1: of %d clients there are %d", len(order), len(r.b.Last))
		}
	}
}

// Time passes ahead of everything else, whatever becomes of the entry.
func TestTimePasses(t *testing.T) {
	r := begin(t)
	r.whoever(entry(0, -1, 0, submit(7, 1, 1, 1)), api.Answer{Task: 7})
	r.does("a grant", entry(0, 3, 1, round()), api.Answer{Task: 7, Node: 1, Cores: []int{0}})
	r.tells("an entry again ends a lease", entry(40, 3, 1, round()), api.Answer{Task: 7, Node: 1, Cores: []int{0}})
	if len(r.b.State.Leases) > 0 || r.b.State.Now != 40 {
		t.Errorf("P13.1: the lease has not ended: %v", r.b.State)
	}
	r.does("a lease that ended can be granted anew at once", entry(0, 3, 2, round()), api.Answer{Task: 7, Node: 1, Cores: []int{0}})
	r.stale("a stale entry ends a lease", entry(40, 3, 1, round()))
	if len(r.b.State.Leases) > 0 || r.b.State.Now != 80 {
		t.Errorf("P13.1: the lease has not ended: %v", r.b.State)
	}
	r.does("a grant", entry(0, 3, 3, round()), api.Answer{Task: 7, Node: 1, Cores: []int{0}})
	r.does("a lease ends ahead of the command", entry(40, 3, 4, renew(1, 1)), api.Answer{Node: 1})
	r.does("a grant", entry(0, 3, 5, round()), api.Answer{Task: 7, Node: 1, Cores: []int{0}})
	r.whoever(entry(40, -1, 0, renew(1, 2)), api.Answer{Node: 1})
}

// Where the table refuses the gap, no time passes, and the entry does what it does.
func TestGapsThatAreRefused(t *testing.T) {
	for _, gap := range []int64{-1, -40, math.MinInt64, math.MaxInt64, math.MaxInt64 - 45, math.MaxInt64 - 44} {
		r := begin(t)
		r.whoever(entry(5, -1, 0, submit(7, 1, 1, 1)), api.Answer{Task: 7})
		r.whoever(entry(gap, -1, 0, submit(8, 1, 1, 1)), api.Answer{Task: 8})
		r.does("a request", entry(gap, 3, 1, round()), api.Answer{Task: 7, Node: 1, Cores: []int{0}})
		r.tells("the request again", entry(gap, 3, 1, round()), api.Answer{Task: 7, Node: 1, Cores: []int{0}})
		r.stale("a stale request", entry(gap, 3, 0, round()))
		passed := gap == math.MaxInt64-45 // with Now and Long it is just the greatest number, once
		if now := r.b.State.Now; (now == 5) == passed {
			t.Errorf("P13.1: behind gaps of %d Now is %d", gap, now)
		}
	}
}

// A book may come from bytes, with any Seq.
func TestSeqsBelowOneThatStand(t *testing.T) {
	for _, seq := range []int{0, -5} {
		r := begin(t)
		r.b.Last = []session.Last{{Client: 3, Seq: seq, Answer: api.Answer{Task: 77}}}
		r.tells("the Seq that stands there", entry(0, 3, seq, submit(7, 1, 1, 1)), api.Answer{Task: 77})
		r.stale("a Seq that is less", entry(0, 3, seq-1, submit(7, 1, 1, 1)))
		if seq < 0 {
			r.stale("a greater Seq below 1", entry(0, 3, seq+1, submit(7, 1, 1, 1)))
			r.stale("the Seq 0", entry(0, 3, 0, submit(7, 1, 1, 1)))
		}
		r.does("the Seq 1", entry(0, 3, 1, submit(7, 1, 1, 1)), api.Answer{Task: 7})
	}
}

// The document's examples 2 and 3.
func TestExamplesOfTheWhole(t *testing.T) {
	r := begin(t)
	r.does("example 1: Submit", entry(1, 0, 1, submit(7, 1, 1, 1)), api.Answer{Task: 7})
	r.does("example 2: Submit of 7 again", entry(1, 0, 2, submit(7, 1, 1, 1)), api.Answer{Err: api.ErrExists})
	r.does("example 2: a need of 7 cores", entry(1, 0, 3, submit(8, 1, 7, 1)), api.Answer{Err: api.ErrQuota})
	r.does("example 2: the queue 0", entry(1, 0, 4, submit(8, 0, 1, 1)), api.Answer{Err: api.ErrLeaf})
	r.does("example 2: the queue 9", entry(1, 0, 5, submit(8, 9, 1, 1)), api.Answer{Err: api.ErrNone})
	r.does("example 3: a request", entry(1, 0, 6, submit(8, 1, 1, 1)), api.Answer{Task: 8})
	r.tells("example 3: the request sent twice", entry(1, 0, 6, submit(8, 1, 1, 1)), api.Answer{Task: 8})
	if len(r.b.State.Tasks) != 2 {
		t.Errorf("example 3: there are %d tasks", len(r.b.State.Tasks))
	}
}
