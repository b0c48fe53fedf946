package table_test

import (
	"reflect"
	"slices"
	"testing"

	"furlong/api"
	"furlong/table"
)

// numbers is what stands in a list and in its spare room, without the lists inside.
func numbers(x reflect.Value) []int64 {
	var all []int64
	switch x.Kind() {
	case reflect.Struct:
		for i := range x.NumField() {
			if x.Field(i).Kind() != reflect.Slice {
				all = append(all, numbers(x.Field(i))...)
			}
		}
	case reflect.Slice:
		room := x.Slice(0, x.Cap())
		for i := range room.Len() {
			all = append(all, numbers(room.Index(i))...)
		}
	case reflect.Bool:
		if x.Bool() {
			return []int64{1}
		}
		return []int64{0}
	default:
		all = append(all, x.Int())
	}
	return all
}

// alone writes into each list of all things, also into the lists inside of it, and looks at all others.
func alone(t *testing.T, what string, things ...any) {
	t.Helper()
	var all []reflect.Value
	for _, x := range things {
		all = append(all, lists(reflect.ValueOf(x).Elem())...)
	}
	var before [][]int64
	for _, l := range all {
		before = append(before, numbers(l))
	}
	for i, l := range all {
		spoil(l)
		for j, other := range all {
			if i != j && !slices.Equal(numbers(other), before[j]) {
				t.Fatalf("memory: %s: a list of %s and one of %s share some", what, l.Type(), other.Type())
			}
		}
		spoil(l) // it stands as before again
	}
}

// full is a state with something in each list: leases on both nodes, of three queues; somebody hungry; tasks in all states.
func full(t *testing.T) *run {
	t.Helper()
	most := v(9, 99)
	r := begin(t, []api.Queue{q(0, -1, 1, most, v(3, 3)), q(1, 0, 1, most, v(3, 3)), q(2, 0, 1, most, v(0, 0)), q(3, 0, 1, most, v(0, 0))}, 40, 10, node(1, 2, 20), node(2, 4, 20))
	for id := 20; id < 25; id++ {
		x := task(id, 2+id%2, 1, 1)
		x.Tickets = tickets(id-18, 3)
		r.submit(x)
	}
	for range 5 {
		r.s, _ = table.Apply(r.s, round())
	}
	r.submit(task(1, 1, 3, 3), task(30, 2, 1, 1), task(31, 2, 1, 1), task(32, 3, 6, 1))
	r.finished("one", 20, 1, 1, 0)
	r.killed("one that is leased, and one that waits", 21, 31)
	r.s, _ = table.Apply(r.s, round())
	if len(r.s.Leases) != 5 || len(r.s.Hungry) != 1 {
		t.Fatalf("the state isn't full: %v", r.s)
	}
	return r
}

// changes is a command of each Kind that changes that state.
func changes() []api.Command {
	return []api.Command{
		submit(api.Task{Id: 22222, Queue: 1, Need: v(1, 1), Tickets: []int{1, 2, 3, 4}}), submit(task(0, 1, 1, 1)), submit(task(26, 2, 1, 1)),
		kill(1), kill(22), addQueue(q(9, 0, 1, v(1, 1), v(0, 0))), setQueue(q(3, 0, 2, v(9, 99), v(0, 0))),
		join(again(node(1, 2, 20), 2)), join(node(7, 1, 1)), join(node(0, 1, 1)), renew(1, 1, 1), renew(2, 1, 1), finish(30, 1, 1, 0), finish(23, 2, 1, 0), round(),
	}
}

func TestListsOfApplyStandAlone(t *testing.T) {
	r := full(t)
	good := 0
	for _, c := range append(changes(), wrongCommands()...) {
		given, told := roomy(r.s), roomy(c)
		next, answer := table.Apply(given, told)
		other, second := table.Apply(given, told)
		behind, third := table.Apply(next, told)
		alone(t, "Apply", &given, &told, &next, &answer, &other, &second, &behind, &third)
		if answer.Err == api.OK {
			good++
		}
	}
	if good != len(changes()) {
		t.Errorf("%d of the commands are not refused", good)
	}
}

// A Round that grants, and one that has a lease be Stop.
func TestListsOfRoundsStandAlone(t *testing.T) {
	granting, stopping := full(t), full(t)
	granting.submit(task(2, 3, 1, 1))
	granting.killed("what has no place", 32)
	stopping.elapse("Patience", 10, unchanged)
	for task, r := range map[int]*run{2: granting, 30: stopping} {
		given, told := roomy(r.s), roomy(round())
		next, answer := table.Apply(given, told)
		other, second := table.Apply(given, told)
		alone(t, "a Round", &given, &told, &next, &answer, &other, &second)
		if answer.Task != task {
			t.Errorf("P11.3: a Round answers %v; want the task %d", answer, task)
		}
	}
}

func TestListsOfElapseStandAlone(t *testing.T) {
	r := full(t)
	for _, gap := range []int64{0, 1, 39, 40, 1000} {
		given := roomy(r.s)
		next, _ := table.Elapse(given, gap)
		other, _ := table.Elapse(given, gap)
		behind, _ := table.Elapse(next, gap)
		alone(t, "Elapse", &given, &next, &other, &behind)
	}
}

func TestListsOfNewStandAlone(t *testing.T) {
	given := roomy(trio(v(2, 2)))
	s, _ := table.New(given, 40, 10)
	other, _ := table.New(given, 40, 10)
	alone(t, "New", &given, &s, &other)
}

// What is answered stays, whatever is written into what was handed in, and into what other calls answered.
func TestAnswersStay(t *testing.T) {
	r := full(t)
	for _, c := range changes() {
		given, told := roomy(r.s), roomy(c)
		next, answer := table.Apply(given, told)
		wantState, wantAnswer := tidied(next), tidied(answer)
		for _, x := range []any{&given, &told} {
			for _, l := range lists(reflect.ValueOf(x).Elem()) {
				spoil(l)
			}
		}
		if !same(next, wantState) || !same(answer, wantAnswer) {
			t.Errorf("memory: what %v answered hangs on what was handed in", c)
		}
	}
}

// wrongCommands is commands that are refused of full's state.
func wrongCommands() []api.Command {
	return []api.Command{
		{}, {Kind: api.Round + 1}, submit(task(-1, 1, 1, 1)), submit(task(30, 1, 1, 1)), submit(task(5, 9, 1, 1)), submit(task(5, 0, 1, 1)), submit(task(5, 1, 10, 1)),
		kill(5), kill(31), kill(20), addQueue(q(1, 0, 1, v(1, 1), v(0, 0))), addQueue(q(9, 2, 1, v(1, 1), v(0, 0))), setQueue(q(9, 0, 1, v(1, 1), v(0, 0))),
		setQueue(q(2, 0, 1, v(0, 0), v(0, 0))), dropQueue(9), dropQueue(0), dropQueue(2), join(again(node(1, 2, 20), 0)), join(node(1, 2, 20)), join(node(7, 1, api.MaxRes)),
		part(9), part(1), renew(9, 1, 1), renew(1, 2, 1), renew(1, 1, 0), finish(9, 1, 1, 0), finish(22, 9, 1, 0), finish(22, 2, 2, 0), finish(22, 2, 1, 7),
	}
}

// A command that is refused leaves the state as it was, and all of the answer but its Err zero; its state is new memory too.
func TestRefusedCommands(t *testing.T) {
	r := full(t)
	for _, c := range wrongCommands() {
		_, a := table.Apply(r.s, c)
		if a.Err == api.OK {
			t.Errorf("errors: %v is not refused", c)
		}
		r.refused("a wrong command", c, a.Err)
	}
	r.stuck("a gap below 0", -1, api.ErrArg)
}
