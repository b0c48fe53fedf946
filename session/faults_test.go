package session_test

import (
	"bytes"
	"math"
	"math/rand"
	"slices"
	"testing"

	"furlong/api"
	"furlong/session"
)

func TestBytesCutShort(t *testing.T) {
	for what, b := range someBooks(t) {
		p := plainly(t, b)
		for end := range p {
			refused(t, what+", cut short", p[:end:end], api.ErrShort)
			if b, err := session.Decode(p[:end]); err != api.ErrShort || !same(b, session.Book{}) {
				t.Errorf("P13.2: %s, cut short, with the rest in its spare room: %v, %d", what, b, err)
			}
		}
	}
	refused(t, "nil", nil, api.ErrShort)
}

func TestBytesBehindTheEnd(t *testing.T) {
	for what, b := range someBooks(t) {
		p := plainly(t, b)
		for _, more := range [][]byte{{0}, {1}, {191}, {0xc8}, {0xff}, {0, 0}, {0xc7, 0xff}, p, make([]byte, 3000)} {
			refused(t, what+", and more bytes", slices.Concat(p, more), api.ErrExtra)
		}
	}
}

// order is a book's bytes with clients that stand so.
func order(t *testing.T, ids ...int) []byte {
	t.Helper()
	b := session.Book{State: home(t)}
	for _, id := range ids {
		b.Last = append(b.Last, session.Last{Client: id, Seq: 1, Answer: api.Answer{Task: 7, Cores: []int{1, 2}}})
	}
	p, err := session.Encode(b)
	if err != api.OK || !bytes.Equal(p, plainly(t, b)) {
		t.Errorf("P13.2: Encode of the clients %v: %d", ids, err)
	}
	return p
}

// Encode writes clients as they stand, but Decode reads none that don't rise.
func TestClientsThatDontRise(t *testing.T) {
	for _, ids := range [][]int{
		{3, 3}, {3, 2}, {0, 0}, {1, 0}, {0, 1, 1}, {0, 2, 1}, {1, 2, 3, 2, 5}, {5, 6, 7, 8, 8}, {5, 1, 2, 3},
		{math.MaxInt64, math.MaxInt64}, {math.MaxInt64, 0}, {300, 200},
		{-1}, {-2}, {math.MinInt64}, {-1, 0}, {-1, 3, 4}, {0, -1}, {3, -1, 4}, {-2, -1}, {-1, -1},
	} {
		p := order(t, ids...)
		refused(t, "clients that don't rise", p, api.ErrForm)
		refused(t, "clients that don't rise, and more bytes", append(p, 0), api.ErrForm)
	}
	for _, ids := range [][]int{{0}, {1}, {0, 1}, {0, 5, 6, math.MaxInt64}, {191, 192, 300, 70000}} {
		if _, err := session.Decode(order(t, ids...)); err != api.OK {
			t.Errorf("P13.2: the clients %v are refused: %d", ids, err)
		}
	}
}

// bad is bytes that are no state, or no answer, and the fault that they are.
type bad struct {
	name string
	p    []byte
	err  api.Errno
}

// spoiled is a state or an answer that was written, in the ways that both may be wrong.
func spoiled(p []byte) []bad {
	return []bad{
		{"no bytes", nil, api.ErrShort},
		{"cut short", p[:len(p)-1], api.ErrShort},
		{"a byte more", append(slices.Clone(p), 0), api.ErrExtra},
		{"a head that is none", append([]byte{0xc8}, p[1:]...), api.ErrForm},
		{"a head that is none at the end", append(slices.Clone(p[:len(p)-1]), 0xff), api.ErrForm},
		{"a number above all", slices.Concat([]byte{0xc7, 0xff, 0xff, 0xff, 0xff, 0xff, 0xff, 0xff, 0xff}, p[1:]), api.ErrForm},
		{"a head without its bytes", append(slices.Clone(p[:len(p)-1]), 0xc3), api.ErrShort},
	}
}

func badStates(t *testing.T) []bad {
	t.Helper()
	stop := append(make([]byte, 6), 1, 0, 0, 0, 0, 0, 0, 0, 2, 0) // a lease with a Stop of 2
	return append(spoiled(stateBytes(t, home(t))),
		bad{"1025 queues", slices.Concat([]byte{0, 0, 0}, number(1025), make([]byte, 9000)), api.ErrLong},
		bad{"1025 hungry", slices.Concat(make([]byte, 7), number(1025), make([]byte, 2050)), api.ErrLong},
		bad{"a Stop of 2", stop, api.ErrForm},
		bad{"an answer", answerBytes(t, api.Answer{}), api.ErrShort},
	)
}

func badAnswers(t *testing.T) []bad {
	t.Helper()
	return append(spoiled(answerBytes(t, api.Answer{Err: 3, Task: 300})),
		bad{"1025 cores", slices.Concat([]byte{0, 0, 0}, number(1025), make([]byte, 1026)), api.ErrLong},
		bad{"1025 leases", slices.Concat([]byte{0, 0, 0, 0}, number(1025), make([]byte, 9000)), api.ErrLong},
		bad{"a Stop of 2", []byte{0, 0, 0, 0, 1, 0, 0, 0, 0, 0, 0, 0, 2}, api.ErrForm},
		bad{"a state", stateBytes(t, api.State{}), api.ErrExtra},
	)
}

// A state that is none is told ahead of whatever is wrong behind it.
func TestStatesThatAreNone(t *testing.T) {
	good := lastBytes(3, 1, answerBytes(t, api.Answer{Task: 7}))
	for _, s := range badStates(t) {
		refused(t, "a state: "+s.name, bookBytes(s.p, 1, good), s.err)
		refused(t, "a state: "+s.name+", and no clients", bookBytes(s.p, 0), s.err)
		refused(t, "a state: "+s.name+", and no more", text(s.p), s.err)
		refused(t, "a state: "+s.name+", and too many clients", bookBytes(s.p, 1025), s.err)
		refused(t, "a state: "+s.name+", and a client below 0", bookBytes(s.p, 1, lastBytes(-1, 1, answerBytes(t, api.Answer{}))), s.err)
		refused(t, "a state: "+s.name+", and more bytes", bookBytes(s.p, 1, good, good), s.err)
	}
}

func TestAnswersThatAreNone(t *testing.T) {
	state, fine := stateBytes(t, home(t)), answerBytes(t, api.Answer{Task: 7})
	for _, a := range badAnswers(t) {
		for at := range 3 {
			lasts := [][]byte{lastBytes(0, 1, fine), lastBytes(4, 2, fine), lastBytes(300, 3, fine)}
			lasts[at] = lastBytes([]int{0, 4, 300}[at], 1, a.p)
			refused(t, "an answer: "+a.name, bookBytes(state, 3, lasts...), a.err)
			refused(t, "an answer: "+a.name+", and it is the last one", bookBytes(state, at+1, lasts[:at+1]...), a.err)
		}
	}
}

// Numbers of a book that are none, each in its place: heads above 199, and numbers above 2^64 - 1.
func TestNumbersThatAreNone(t *testing.T) {
	state, answer := text(stateBytes(t, home(t))), text(answerBytes(t, api.Answer{}))
	parts := [][]byte{state, number(2), whole64(3), whole64(1), answer, whole64(4), whole64(1), answer}
	over := []byte{0xc7, 0xff, 0xff, 0xff, 0xff, 0xff, 0xff, 0xff, 0xff}
	for at := range parts {
		ahead, behind := slices.Concat(parts[:at]...), slices.Concat(parts[at+1:]...)
		for _, none := range [][]byte{{0xc8}, {0xff}, over} {
			refused(t, "a number that is none", slices.Concat(ahead, none, behind), api.ErrForm)
			refused(t, "a number that is none, and no more", slices.Concat(ahead, none), api.ErrForm)
		}
		refused(t, "a number without its bytes", slices.Concat(ahead, []byte{0xc2, 0}), api.ErrShort)
	}
}

// Strings of bytes that are told to be longer than any, or longer than what is left.
func TestStringsThatAreTooLong(t *testing.T) {
	state := stateBytes(t, home(t))
	for told, err := range map[int]api.Errno{api.MaxBytes: api.ErrShort, api.MaxBytes + 1: api.ErrLong, math.MaxInt64: api.ErrLong} {
		refused(t, "a state's string", append(number(told), state...), err)
		refused(t, "an answer's string", bookBytes(state, 1, whole64(3), whole64(1), number(told), make([]byte, 900)), err)
	}
	refused(t, "a state's string, one byte too long", append(number(len(state)+1), state...), api.ErrShort)
}

// P9: whatever the bytes are: they are refused, or they are just what is written of what was read.
func TestAnyBytes(t *testing.T) {
	r := rand.New(rand.NewSource(18))
	read, wrong := 0, 0
	ask := func(p []byte) {
		t.Helper()
		b, err := session.Decode(p)
		if err != api.OK {
			wrong++
			if !same(b, session.Book{}) {
				t.Fatalf("P13.2: beside the error %d of Decode stands %v", err, b)
			}
			return
		}
		read++
		if again, err := session.Encode(b); err != api.OK || !bytes.Equal(again, p) {
			t.Fatalf("P9: Encode of what %x is read as: %x, %d", p, again, err)
		}
	}
	good := plainly(t, lived(t))
	for range 20000 {
		p := slices.Clone(good)
		for range 1 + r.Intn(2) {
			p[r.Intn(len(p))] = byte(r.Intn(256))
		}
		ask(p)
		p = make([]byte, r.Intn(40))
		for i := range p {
			p[i] = byte(r.Intn(10))
		}
		ask(slices.Concat([]byte{8, 0, 0, 0, 0, 0, 0, 0, 0}, p))
		ask(p)
	}
	if read < 1000 || wrong < 1000 {
		t.Errorf("%d times bytes were read, %d times refused", read, wrong)
	}
}
