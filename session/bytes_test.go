package session_test

import (
	"bytes"
	"math"
	"slices"
	"testing"

	"furlong/api"
	"furlong/command"
	"furlong/session"
	"furlong/strip"
)

func number(x int) []byte { return strip.Lay(nil, uint64(x)) }

func whole64(x int) []byte { return strip.LayInt(nil, int64(x)) }

func text(p []byte) []byte { return strip.LayBytes(nil, p) }

func stateBytes(t *testing.T, s api.State) []byte {
	t.Helper()
	p, err := command.EncodeState(s)
	if err != api.OK {
		t.Fatalf("EncodeState: %d", err)
	}
	return p
}

func answerBytes(t *testing.T, a api.Answer) []byte {
	t.Helper()
	p, err := command.EncodeAnswer(a)
	if err != api.OK {
		t.Fatalf("EncodeAnswer: %d", err)
	}
	return p
}

// lastBytes is a client, with whatever stands for its answer.
func lastBytes(client, seq int, answer []byte) []byte {
	return slices.Concat(whole64(client), whole64(seq), text(answer))
}

// bookBytes is a book written plainly, with whatever stands for its state and for its clients.
func bookBytes(state []byte, count int, lasts ...[]byte) []byte {
	return slices.Concat(text(state), number(count), slices.Concat(lasts...))
}

func plainly(t *testing.T, b session.Book) []byte {
	t.Helper()
	var lasts [][]byte
	for _, l := range b.Last {
		lasts = append(lasts, lastBytes(l.Client, l.Seq, answerBytes(t, l.Answer)))
	}
	return bookBytes(stateBytes(t, b.State), len(lasts), lasts...)
}

// encodes asks twice (P2), and looks at the memory.
func encodes(t *testing.T, what string, b session.Book, want []byte, err api.Errno) {
	t.Helper()
	given := roomy(b)
	before := whole(given)
	p, e := session.Encode(given)
	other, again := session.Encode(given)
	if e != err || again != err || !bytes.Equal(p, want) || !bytes.Equal(other, want) {
		t.Errorf("P13.2: %s: Encode = %x, %d; want %x, %d", what, short(p), e, short(want), err)
	}
	unshared(t, what, &given, &p, &other)
	if !same(whole(given), before) {
		t.Errorf("memory: %s: Encode changes what is handed in", what)
	}
}

func decodes(t *testing.T, what string, p []byte, want session.Book, err api.Errno) {
	t.Helper()
	given := append(slices.Clone(p), 1, 2, 3)[:len(p)]
	before := slices.Clone(given[:cap(given)])
	b, e := session.Decode(given)
	other, again := session.Decode(given)
	if e != err || again != err {
		t.Errorf("P13.2: %s: Decode of %x: %d; want %d", what, short(p), e, err)
	}
	if !same(b, want) || !same(other, want) {
		t.Errorf("P13.2: %s: Decode of %x = %v; want %v", what, short(p), b, want)
	}
	unshared(t, what, &given, &b, &other)
	if !bytes.Equal(given[:cap(given)], before) {
		t.Errorf("memory: %s: Decode changes what is handed in", what)
	}
}

func refused(t *testing.T, what string, p []byte, err api.Errno) {
	t.Helper()
	decodes(t, what, p, session.Book{}, err)
}

// both asks that a book is written as these bytes, and they are read as that book.
func both(t *testing.T, what string, b session.Book, p []byte) {
	t.Helper()
	encodes(t, what, b, p, api.OK)
	decodes(t, what, p, b, api.OK)
}

// short keeps what is told of a fault readable.
func short(p []byte) []byte { return p[:min(len(p), 80)] }

func someBooks(t *testing.T) map[string]session.Book {
	t.Helper()
	lease := api.Lease{Task: 1, Queue: 2, Node: 3, Cores: []int{4, 5}, Mem: 600, Since: -7, Until: 1 << 50, Stop: true}
	return map[string]session.Book{
		"nothing":         {},
		"no clients":      session.New(home(t)),
		"one that lived":  lived(t),
		"a client alone":  {Last: []session.Last{{Client: 3, Seq: 2}}},
		"the client 0":    {Last: []session.Last{{Client: 0, Seq: 1, Answer: api.Answer{Err: api.ErrStale}}}},
		"any numbers":     {Last: []session.Last{{Client: 0, Seq: -1}, {Client: 1, Seq: math.MinInt64}, {Client: math.MaxInt64, Seq: math.MaxInt64}}},
		"answers' lists":  {State: home(t), Last: []session.Last{{Client: 1, Seq: 300, Answer: api.Answer{Task: -1, Node: 2, Cores: []int{9, 8}, Leases: []api.Lease{lease, {}}}}, {Client: 2}}},
		"a state of junk": {State: api.State{Long: -1, Now: math.MinInt64, Nodes: []api.Node{{}, {}}, Leases: []api.Lease{lease, lease}}, Last: []session.Last{{Client: 5}}},
	}
}

func TestBooksWrittenAndReadAgain(t *testing.T) {
	for what, b := range someBooks(t) {
		both(t, what, b, plainly(t, b))
	}
}

func TestBooksByHand(t *testing.T) {
	both(t, "nothing", session.Book{}, []byte{8, 0, 0, 0, 0, 0, 0, 0, 0, 0})
	b := session.Book{State: api.State{Long: 1}, Last: []session.Last{{Client: 3, Seq: 2, Answer: api.Answer{Err: api.ErrNone, Task: -1}}, {Client: 200, Seq: -1}}}
	both(t, "two clients", b, []byte{8, 2, 0, 0, 0, 0, 0, 0, 0, 2, 6, 4, 5, 16, 1, 0, 0, 0, 0xc0, 208, 1, 5, 0, 0, 0, 0, 0})
}

// Behind a book that was read the same entries do the same.
func TestBooksGoOn(t *testing.T) {
	p, _ := session.Encode(lived(t))
	b, _ := session.Decode(p)
	l := append(someEntries(), someEntries()...)
	next, answers := session.Fold(lived(t), l)
	other, told := session.Fold(b, l)
	if !same(next, other) || !same(answers, told) {
		t.Errorf("P13.2: a book that was read goes on as %v, %v; want %v, %v", other, told, next, answers)
	}
}

// clients is a book of so many.
func clients(n int) session.Book {
	var b session.Book
	for client := range n {
		b.Last = append(b.Last, session.Last{Client: client, Seq: 1})
	}
	return b
}

func TestTheMostClients(t *testing.T) {
	for _, n := range []int{191, 192, 447, 448, api.MaxTasks - 1, api.MaxTasks} {
		both(t, "many clients", clients(n), plainly(t, clients(n)))
	}
	for _, n := range []int{api.MaxTasks + 1, api.MaxTasks + 2, 3000} {
		encodes(t, "too many clients", clients(n), nil, api.ErrLong)
		refused(t, "too many clients", plainly(t, clients(n)), api.ErrLong)
	}
	empty := stateBytes(t, api.State{})
	for _, n := range []uint64{api.MaxTasks + 1, 1 << 32, math.MaxInt64, 1 << 63, math.MaxUint64} {
		p := append(text(empty), strip.Lay(nil, n)...)
		refused(t, "a count that is too great", p, api.ErrLong)
		refused(t, "a count that is too great, and some bytes", append(p, 9, 0xc8, 9), api.ErrLong)
		refused(t, "a count that is too great, cut off", p[:len(p)-1], api.ErrShort)
	}
	refused(t, "the greatest count, and no clients", bookBytes(empty, api.MaxTasks), api.ErrShort)
}

// wide is a book of at least 1000000 bytes, all but bytes of MaxBytes, with answers whose cores take a byte each.
func wide(t *testing.T, size int) session.Book {
	t.Helper()
	b := session.Book{State: home(t)}
	for client := range 1000 {
		b.Last = append(b.Last, session.Last{Client: client, Seq: 1, Answer: api.Answer{Cores: make([]int, 1000)}})
	}
	missing := size - len(plainly(t, b))
	for at := range b.Last {
		for core := range b.Last[at].Answer.Cores {
			if missing == 0 {
				return b
			}
			b.Last[at].Answer.Cores[core] = 100 // takes a byte more
			missing--
		}
	}
	t.Fatalf("a book of %d bytes can't be made", size)
	return b
}

func TestTheMostBytes(t *testing.T) {
	for _, size := range []int{api.MaxBytes - 1, api.MaxBytes} {
		b := wide(t, size)
		p := plainly(t, b)
		if len(p) != size {
			t.Fatalf("the book has %d bytes; want %d", len(p), size)
		}
		both(t, "many bytes", b, p)
	}
	for _, size := range []int{api.MaxBytes + 1, api.MaxBytes + 2, api.MaxBytes + 30000} {
		b := wide(t, size)
		encodes(t, "too many bytes", b, nil, api.ErrLong)
		refused(t, "too many bytes", plainly(t, b), api.ErrLong)
	}
	refused(t, "MaxBytes of nothing", make([]byte, api.MaxBytes), api.ErrShort)
	refused(t, "one more of nothing", make([]byte, api.MaxBytes+1), api.ErrLong)
	refused(t, "one more of what is none", bytes.Repeat([]byte{0xff}, api.MaxBytes+1), api.ErrLong)
	p := plainly(t, lived(t))
	refused(t, "a book, and bytes up to MaxBytes", append(p, make([]byte, api.MaxBytes-len(p))...), api.ErrExtra)
	refused(t, "a book, and bytes above MaxBytes", append(p, make([]byte, api.MaxBytes-len(p)+1)...), api.ErrLong)
}

// A state alone may be too long, for a book and for a list.
func TestStatesThatAreTooLong(t *testing.T) {
	b := session.Book{State: home(t)}
	for id := range api.MaxTasks {
		b.State.Tasks = append(b.State.Tasks, api.Task{Id: id, Tickets: make([]int, api.MaxTasks)})
	}
	encodes(t, "a state above MaxBytes", b, nil, api.ErrLong)
	b.State.Tasks = make([]api.Task, api.MaxTasks)
	both(t, "the most tasks", b, plainly(t, b))
	b.State.Tasks = make([]api.Task, api.MaxTasks+1)
	encodes(t, "too many tasks", b, nil, api.ErrLong)
	b = lived(t)
	b.State.Leases[1].Cores = make([]int, api.MaxTasks+1)
	encodes(t, "too many cores of a lease", b, nil, api.ErrLong)
}

func TestAnswersThatAreTooLong(t *testing.T) {
	for _, at := range []int{0, 3, 7} {
		b := lived(t)
		b.Last[at].Answer.Cores = make([]int, api.MaxTasks)
		both(t, "the most cores", b, plainly(t, b))
		b.Last[at].Answer.Cores = make([]int, api.MaxTasks+1)
		encodes(t, "too many cores", b, nil, api.ErrLong)
		b = lived(t)
		b.Last[at].Answer.Leases = make([]api.Lease, api.MaxTasks)
		both(t, "the most leases", b, plainly(t, b))
		b.Last[at].Answer.Leases = make([]api.Lease, api.MaxTasks+1)
		encodes(t, "too many leases", b, nil, api.ErrLong)
		b.Last[at].Answer.Leases = []api.Lease{{Cores: make([]int, api.MaxTasks+1)}}
		encodes(t, "too many cores of a lease", b, nil, api.ErrLong)
	}
}
