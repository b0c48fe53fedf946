package deep_test

import (
	"reflect"
	"slices"
	"testing"

	"furlong/api"
	"furlong/deep"
)

func leases() []api.Lease {
	return []api.Lease{{Task: 1, Queue: 2, Node: 3, Cores: []int{4, 5}, Mem: 6, Since: 7, Until: 8, Stop: true}, {}, {Task: 9, Cores: []int{10}}}
}

func state() api.State {
	return api.State{
		Long: 1, Patience: 2, Now: 3,
		Queues: []api.Queue{{Id: 4, Parent: 5, Weight: 6, Quota: api.Vec{CPU: 7, Mem: 8}, Min: api.Vec{CPU: 9, Mem: 10}}, {Id: 11}},
		Nodes:  []api.Node{{Id: 12, Cores: 13, Mem: 14, Inc: 15, Beat: 16}, {Id: 17}},
		Tasks:  []api.Task{{Id: 18, Queue: 19, Work: 20, Tickets: []int{21, 22}, State: 23}, {}, {Id: 24, Tickets: []int{25}}},
		Leases: leases(),
		Hungry: []api.Hunger{{Queue: 26, Since: 27}, {Queue: 28}},
	}
}

func answer() api.Answer {
	return api.Answer{Err: 1, Task: 2, Node: 3, Cores: []int{4, 5}, Leases: leases()}
}

// lists are all lists of a thing, those inside elements too.
func lists(x reflect.Value) []reflect.Value {
	var all []reflect.Value
	switch x.Kind() {
	case reflect.Struct:
		for i := range x.NumField() {
			all = append(all, lists(x.Field(i))...)
		}
	case reflect.Slice:
		all = append(all, x)
		for i := range x.Len() {
			all = append(all, lists(x.Index(i))...)
		}
	}
	return all
}

// apart asks that the copy is what it was made of, and stays so, whatever is written into any list of that one, or of the copy.
func apart[T any](t *testing.T, made func() T, copied func(T) T) {
	t.Helper()
	given := made()
	c := copied(given)
	if !reflect.DeepEqual(c, given) {
		t.Fatalf("the copy of %v is %v", given, c)
	}
	for _, l := range slices.Backward(lists(reflect.ValueOf(&given).Elem())) {
		l.Slice(0, l.Cap()).Clear()
	}
	if !reflect.DeepEqual(c, made()) {
		t.Errorf("a copy hangs on what it was made of: %v", c)
	}
	given = made()
	c = copied(given)
	for _, l := range slices.Backward(lists(reflect.ValueOf(&c).Elem())) {
		l.Slice(0, l.Cap()).Clear()
	}
	if !reflect.DeepEqual(given, made()) {
		t.Errorf("what a copy was made of hangs on it: %v", given)
	}
}

func TestCopiesStandApart(t *testing.T) {
	apart(t, state, deep.State)
	apart(t, answer, deep.Answer)
	apart(t, leases, deep.Leases)
	apart(t, func() api.State { return api.State{} }, deep.State)
	apart(t, func() api.Answer { return api.Answer{} }, deep.Answer)
	apart(t, func() []api.Lease { return nil }, deep.Leases)
}
