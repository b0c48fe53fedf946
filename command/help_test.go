package command_test

import (
	"bytes"
	"math"
	"reflect"
	"testing"

	"furlong/api"
	"furlong/command"
)

// coder is the two calls of a thing.
type coder[T any] struct {
	name   string
	encode func(T) ([]byte, api.Errno)
	decode func([]byte) (T, int, api.Errno)
}

var (
	entries = coder[api.Entry]{"Entry", command.EncodeEntry, command.DecodeEntry}
	answers = coder[api.Answer]{"Answer", command.EncodeAnswer, command.DecodeAnswer}
	states  = coder[api.State]{"State", command.EncodeState, command.DecodeState}
)

// ints is n numbers that differ from each other, some below 0.
func ints(n int) []int {
	l := make([]int, n)
	for i := range l {
		l[i] = 100 - i*i
	}
	return l
}

// many is n copies of x in one list.
func many[T any](n int, x T) []T {
	l := make([]T, n)
	for i := range l {
		l[i] = x
	}
	return l
}

func v(cpu, mem int64) api.Vec { return api.Vec{CPU: cpu, Mem: mem} }

// In what follows the fields of a thing differ from each other, so that none can stand for another one.

func aQueue() api.Queue {
	return api.Queue{Id: 11, Parent: -12, Weight: 300, Quota: v(14, -15), Min: v(160, 17)}
}

func aNode() api.Node { return api.Node{Id: 21, Cores: 22, Mem: 1 << 40, Inc: -24, Beat: 25} }

func aTask(tickets ...int) api.Task {
	return api.Task{Id: 31, Queue: -32, Need: v(33, 1<<20), Work: 35, Tickets: tickets, State: api.Killed}
}

func aLease(cores ...int) api.Lease {
	return api.Lease{Task: 41, Queue: 42, Node: -43, Cores: cores, Mem: 700, Since: 46, Until: -470, Stop: true}
}

func anEntry(tickets ...int) api.Entry {
	return api.Entry{Gap: 1, Client: -2, Seq: 300, Command: api.Command{
		Kind: api.Renew, Id: 4, Inc: 5, Beat: -600, Since: 7, Queue: aQueue(), Node: aNode(), Task: aTask(tickets...)}}
}

func anAnswer() api.Answer {
	leave := aLease()
	leave.Stop = false
	return api.Answer{Err: api.ErrStale, Task: 2, Node: -300, Cores: []int{5, -1, 300}, Leases: []api.Lease{aLease(1, 2), leave, aLease(9)}}
}

func aState() api.State {
	root := api.Queue{Id: 0, Parent: -1, Weight: 1}
	going := aLease(0, 63)
	going.Stop = false
	return api.State{
		Long: 40, Patience: -10, Now: 1 << 50,
		Queues: []api.Queue{root, aQueue()},
		Nodes:  []api.Node{aNode(), {Id: 22}, {}},
		Tasks:  []api.Task{aTask(), aTask(3, 200, -1), {}},
		Leases: []api.Lease{going, aLease(7)},
		Hungry: []api.Hunger{{Queue: 5, Since: -6}, {Queue: 400, Since: math.MaxInt64}},
	}
}

func someEntries() []api.Entry {
	l := []api.Entry{{}, anEntry(), anEntry(1), anEntry(4, -5, 1<<40), {Client: -1}}
	for _, kind := range []int{0, 1, api.Round, api.Round + 1, 191, 192, math.MaxInt64 - 1, math.MaxInt64} {
		e := anEntry(2, 3)
		e.Command.Kind = kind
		l = append(l, e)
	}
	return l
}

func someAnswers() []api.Answer {
	return []api.Answer{
		{}, anAnswer(), {Err: -1}, {Err: api.ErrWord, Task: -1, Node: 7},
		{Cores: []int{0}}, {Cores: []int{}, Leases: []api.Lease{}}, {Leases: []api.Lease{{}}},
		{Leases: []api.Lease{aLease(), {Cores: []int{}}, aLease(3)}},
	}
}

func someStates() []api.State {
	s := []api.State{
		{}, aState(), {Long: 1}, {Patience: 2}, {Now: 3},
		{Queues: []api.Queue{}, Nodes: []api.Node{}, Tasks: []api.Task{}, Leases: []api.Lease{}, Hungry: []api.Hunger{}},
		{Queues: []api.Queue{aQueue()}}, {Nodes: []api.Node{aNode()}}, {Tasks: []api.Task{aTask(1, 2)}},
		{Leases: []api.Lease{aLease(3, 4)}}, {Hungry: []api.Hunger{{Queue: 1, Since: 2}}},
	}
	return append(s, api.State{Queues: many(191, aQueue()), Tasks: many(192, aTask(1)), Leases: many(448, aLease(5))})
}

// same takes nil and empty lists for alike.
func same[T any](a, b T) bool {
	return reflect.DeepEqual(tidied(a), tidied(b))
}

// tidied is a deep copy, in which no list is empty.
func tidied[T any](x T) T {
	c := reflect.New(reflect.TypeFor[T]()).Elem()
	copyInto(c, reflect.ValueOf(x))
	return c.Interface().(T)
}

func copyInto(to, from reflect.Value) {
	switch {
	case from.Kind() == reflect.Struct:
		for i := range from.NumField() {
			copyInto(to.Field(i), from.Field(i))
		}
	case from.Kind() != reflect.Slice:
		to.Set(from)
	case from.Len() > 0:
		to.Set(reflect.MakeSlice(from.Type(), from.Len(), from.Len()))
		for i := range from.Len() {
			copyInto(to.Index(i), from.Index(i))
		}
	}
}

// checkEncode asks twice (P2), and that nothing stands beside an error.
func checkEncode[T any](t *testing.T, c coder[T], what string, x T, want []byte, err api.Errno) {
	t.Helper()
	for range 2 {
		if b, e := c.encode(x); !bytes.Equal(b, want) || e != err {
			t.Errorf("P10.1: Encode%s, %s = %x, %d; want %x, %d", c.name, what, short(b), e, short(want), err)
		}
	}
}

func checkDecode[T any](t *testing.T, c coder[T], what string, b []byte, want T, place int, err api.Errno) {
	t.Helper()
	for range 2 {
		x, at, e := c.decode(b)
		if at != place || e != err {
			t.Errorf("P10.1: Decode%s, %s: place %d, %d; want %d, %d", c.name, what, at, e, place, err)
		}
		if !same(x, want) {
			t.Errorf("P10.1: Decode%s, %s = %v; want %v", c.name, what, x, want)
		}
	}
}

func checkFault[T any](t *testing.T, c coder[T], what string, b []byte, place int, err api.Errno) {
	t.Helper()
	var none T
	checkDecode(t, c, what, b, none, place, err)
}

// checkBoth asks that x is written as these bytes, and they are read as x.
func checkBoth[T any](t *testing.T, c coder[T], what string, x T, want []byte) {
	t.Helper()
	checkEncode(t, c, what, x, want, api.OK)
	checkDecode(t, c, what, want, x, 0, api.OK)
}

// short keeps what is told of a fault readable.
func short(b []byte) []byte {
	if len(b) > 60 {
		return b[:60]
	}
	return b
}
