package command_test

import (
	"bytes"
	"math"
	"reflect"
	"slices"
	"testing"

	"furlong/api"
)

func TestExamples(t *testing.T) {
	checkBoth(t, answers, "nothing", api.Answer{}, []byte{0, 0, 0, 0, 0})
	checkFault(t, answers, "four bytes", []byte{0, 0, 0, 0}, 4, api.ErrShort)
	checkFault(t, answers, "six bytes", []byte{0, 0, 0, 0, 0, 0}, 5, api.ErrExtra)
}

func TestThingsOfZeroValues(t *testing.T) {
	checkBoth(t, entries, "nothing", api.Entry{}, make([]byte, 27))
	checkBoth(t, states, "nothing", api.State{}, make([]byte, 8))
	checkBoth(t, answers, "a lease of nothing", api.Answer{Leases: []api.Lease{{}}}, []byte{0, 0, 0, 0, 1, 0, 0, 0, 0, 0, 0, 0, 0})
	s := api.State{Queues: make([]api.Queue, 1), Nodes: make([]api.Node, 1), Tasks: make([]api.Task, 1), Leases: make([]api.Lease, 1), Hungry: make([]api.Hunger, 1)}
	checkBoth(t, states, "one nothing in each list", s, slices.Concat([]byte{0, 0, 0},
		append([]byte{1}, make([]byte, 7)...),
		append([]byte{1}, make([]byte, 5)...),
		append([]byte{1}, make([]byte, 7)...),
		append([]byte{1}, make([]byte, 8)...),
		append([]byte{1}, make([]byte, 2)...)))
}

// The bytes are written out here by hand, from the chapter's words.
func TestTheOrderOfTheFields(t *testing.T) {
	queue := []byte{2, 3, 8, 10, 12, 14, 16}             // 1, -2, 4, 5, 6, 7, 8
	node := []byte{18, 20, 22, 24, 25}                   // 9, 10, 11, 12, -13
	task := []byte{28, 30, 32, 34, 36, 2, 38, 39, 42}    // 14, 15, 16, 17, 18, [19 -20], 21
	lease := []byte{44, 46, 48, 1, 50, 52, 54, 56, 1}    // 22, 23, 24, [25], 26, 27, 28, stop
	leave := []byte{58, 60, 62, 0, 64, 66, 68, 0}        // 29, 30, 31, [], 32, 33, 34, no stop
	hunger := []byte{70, 71}                             // 35, -36
	ahead := []byte{74, 75, 78, 40, 82, 83, 86, 0xc0, 0} // 37, -38, 39, the Kind 40, 41, -42, 43, 96
	q := api.Queue{Id: 1, Parent: -2, Weight: 4, Quota: v(5, 6), Min: v(7, 8)}
	n := api.Node{Id: 9, Cores: 10, Mem: 11, Inc: 12, Beat: -13}
	k := api.Task{Id: 14, Queue: 15, Need: v(16, 17), Work: 18, Tickets: []int{19, -20}, State: 21}
	l := api.Lease{Task: 22, Queue: 23, Node: 24, Cores: []int{25}, Mem: 26, Since: 27, Until: 28, Stop: true}
	m := api.Lease{Task: 29, Queue: 30, Node: 31, Mem: 32, Since: 33, Until: 34}
	e := api.Entry{Gap: 37, Client: -38, Seq: 39, Command: api.Command{Kind: 40, Id: 41, Inc: -42, Beat: 43, Since: 96, Queue: q, Node: n, Task: k}}
	checkBoth(t, entries, "by hand", e, slices.Concat(ahead, queue, node, task))
	a := api.Answer{Err: 44, Task: 45, Node: -46, Cores: []int{47, 48, 49}, Leases: []api.Lease{l, m}}
	checkBoth(t, answers, "by hand", a, slices.Concat([]byte{88, 90, 91, 3, 94, 96, 98, 2}, lease, leave))
	s := api.State{Long: 50, Patience: 51, Now: -52, Queues: []api.Queue{q}, Nodes: []api.Node{n, n}, Tasks: []api.Task{k, {}, k}, Leases: []api.Lease{m, l}, Hungry: []api.Hunger{{Queue: 35, Since: -36}}}
	checkBoth(t, states, "by hand", s, slices.Concat([]byte{100, 102, 103, 1}, queue, []byte{2}, node, node, []byte{3}, task, make([]byte, 7), task, []byte{2}, leave, lease, []byte{1}, hunger))
}

// everyNumber turns each number of x, one after the other, into each of those, and asks whether the thing and its bytes go to and fro.
func everyNumber[T any](t *testing.T, c coder[T], x T) {
	t.Helper()
	numbers := []int64{0, 1, -1, 95, 96, -96, -97, 300, math.MaxInt64, math.MaxInt64 - 1, math.MinInt64, math.MinInt64 + 1, math.MaxInt32 + 1, math.MinInt32 - 1}
	x = tidied(x)
	each(reflect.ValueOf(&x).Elem(), "", func(field reflect.Value, name string) {
		before := reflect.ValueOf(field.Interface())
		if field.Kind() == reflect.Bool {
			field.SetBool(!field.Bool())
			checkBoth(t, c, name, x, plainly(x).b)
			field.Set(before)
			return
		}
		for _, n := range numbers {
			if name == "Kind" && n < 0 {
				continue
			}
			field.SetInt(n)
			checkBoth(t, c, name, x, plainly(x).b)
		}
		field.Set(before)
	})
}

// each goes through the fields that are numbers or flags, those in lists too.
func each(x reflect.Value, name string, visit func(field reflect.Value, name string)) {
	switch x.Kind() {
	case reflect.Struct:
		for i := range x.NumField() {
			each(x.Field(i), x.Type().Field(i).Name, visit)
		}
	case reflect.Slice:
		for i := range x.Len() {
			each(x.Index(i), name, visit)
		}
	default:
		visit(x, name)
	}
}

func TestEveryNumberAtItsEnds(t *testing.T) {
	everyNumber(t, entries, anEntry(3, 4))
	everyNumber(t, answers, anAnswer())
	everyNumber(t, states, aState())
}

// The greatest and the least number, byte by byte.
func TestTheEndsOfNumbersInBytes(t *testing.T) {
	greatest := []byte{0xc7, 0xfe, 0xfe, 0xfe, 0xfe, 0xfe, 0xfe, 0xfe, 0x3e} // its place in the row is 2^64 - 2
	least := []byte{0xc7, 0xfe, 0xfe, 0xfe, 0xfe, 0xfe, 0xfe, 0xfe, 0x3f}    // and that of the least one 2^64 - 1
	checkBoth(t, answers, "the ends", api.Answer{Err: math.MaxInt64, Task: math.MinInt64}, slices.Concat(greatest, least, []byte{0, 0, 0}))
	checkBoth(t, states, "the ends", api.State{Long: math.MinInt64, Now: math.MaxInt64}, slices.Concat(least, []byte{0}, greatest, make([]byte, 5)))
	top := []byte{0xc7, 0x7e, 0xfe, 0xfe, 0xfe, 0xfe, 0xfe, 0xfe, 0x3f} // 2^63 - 1 as a Kind, which goes by no row
	checkBoth(t, entries, "the greatest Kind", api.Entry{Command: api.Command{Kind: math.MaxInt64}}, slices.Concat([]byte{0, 0, 0}, top, make([]byte, 23)))
	more := slices.Concat([]byte{0, 0, 0}, top, make([]byte, 23))
	more[3+8]++
	checkFault(t, entries, "a Kind of one more", more, 3, api.ErrForm)
}

func testThere[T any](t *testing.T, c coder[T], all []T) {
	t.Helper()
	for _, x := range all {
		checkBoth(t, c, "to and fro", x, plainly(x).b)
	}
}

func TestThereAndBack(t *testing.T) {
	testThere(t, entries, someEntries())
	testThere(t, answers, someAnswers())
	testThere(t, states, someStates())
}

func TestNilAndEmptyListsAreAlike(t *testing.T) {
	empty := api.State{Queues: []api.Queue{}, Nodes: []api.Node{}, Tasks: []api.Task{{Tickets: []int{}}}, Leases: []api.Lease{{Cores: []int{}}}, Hungry: make([]api.Hunger, 0, 9)}
	none := api.State{Tasks: []api.Task{{}}, Leases: []api.Lease{{}}}
	one, _ := states.encode(empty)
	other, _ := states.encode(none)
	if !bytes.Equal(one, other) || len(one) != 8+7+8 {
		t.Errorf("P10.1: empty lists are %x, nil ones %x", one, other)
	}
	checkEncode(t, answers, "empty lists", api.Answer{Cores: []int{}, Leases: []api.Lease{}}, make([]byte, 5), api.OK)
	checkEncode(t, entries, "empty lists", api.Entry{Command: api.Command{Task: api.Task{Tickets: []int{}}}}, make([]byte, 27), api.OK)
}
