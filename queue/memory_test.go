package queue_test

import (
	"slices"
	"testing"

	"furlong/api"
	"furlong/queue"
)

// roomy is a copy of l with spare room behind it, in which marks stand.
func roomy[T any](l []T, mark T) []T {
	whole := append(slices.Clone(l), mark, mark, mark, mark)
	return whole[:len(l)]
}

// scribble writes over a list and all of its spare room.
func scribble[T any](l []T, mark T) {
	whole := l[:cap(l)]
	for i := range whole {
		whole[i] = mark
	}
}

// unshared asks a call twice, writes over the first answer, and looks at the arguments and at the second answer.
func unshared[T comparable](t *testing.T, name string, mark T, ask func(l []api.Queue, uses []api.Use) []T) {
	t.Helper()
	stain := q(-77, -77)
	l := roomy(tree(), stain)
	uses := roomy([]api.Use{use(6, 1, 1), use(1, 2, 2)}, use(-77, -77, -77))
	oldList, oldUses := slices.Clone(l[:cap(l)]), slices.Clone(uses[:cap(uses)])
	first := ask(l, uses)
	second := ask(l, uses)
	if len(first) == 0 || !slices.Equal(first, second) {
		t.Errorf("P2: %s = %v, then %v", name, first, second)
	}
	want := slices.Clone(first)
	scribble(first, mark)
	if !slices.Equal(second, want) {
		t.Errorf("memory: two answers of %s share some", name)
	}
	if !slices.Equal(l[:cap(l)], oldList) || !slices.Equal(uses[:cap(uses)], oldUses) {
		t.Errorf("memory: %s changes what is handed in, or shares it", name)
	}
	scribble(l, stain)
	scribble(uses, use(-77, -77, -77))
	if !slices.Equal(second, want) {
		t.Errorf("memory: the answer of %s hangs on what was handed in", name)
	}
}

func TestAnswersAreNewMemory(t *testing.T) {
	stain := q(-99, -99)
	for _, id := range []int{3, 4, 8, 10} {
		unshared(t, "Add", stain, func(l []api.Queue, _ []api.Use) []api.Queue {
			m, _ := queue.Add(l, q(id, 2))
			return m
		})
	}
	for _, p := range tree() {
		unshared(t, "Set", stain, func(l []api.Queue, _ []api.Use) []api.Queue {
			m, _ := queue.Set(l, weight(p, 8))
			return m
		})
	}
	for _, id := range []int{1, 6, 7, 9} {
		unshared(t, "Drop", stain, func(l []api.Queue, _ []api.Use) []api.Queue {
			m, _ := queue.Drop(l, id)
			return m
		})
	}
	unshared(t, "Leaves", -99, func(l []api.Queue, _ []api.Use) []int {
		m, _ := queue.Leaves(l)
		return m
	})
	unshared(t, "Children", -99, func(l []api.Queue, _ []api.Use) []int {
		m, _ := queue.Children(l, 2)
		return m
	})
	unshared(t, "Path", -99, func(l []api.Queue, _ []api.Use) []int {
		m, _ := queue.Path(l, 6)
		return m
	})
	unshared(t, "Below", -99, func(l []api.Queue, _ []api.Use) []int {
		m, _ := queue.Below(l, 2)
		return m
	})
	unshared(t, "Sums", v(-99, -99), func(l []api.Queue, uses []api.Use) []api.Vec {
		m, _ := queue.Sums(l, uses)
		return m
	})
}

// What is refused, and what answers an error alone, leaves its arguments as they were too.
func TestArgumentsStay(t *testing.T) {
	ask := func(l []api.Queue, uses []api.Use) {
		queue.Check(l)
		for _, p := range []api.Queue{q(5, 2), q(3, 4), q(3, 5), weight(q(3, 0), 0), weight(q(8, 0), 0), q(5, 0)} {
			queue.Add(l, p)
			queue.Set(l, p)
			queue.Drop(l, p.Parent)
		}
		queue.Set(l, weight(q(5, 2), 0))
		for _, id := range []int{0, 2, 6, 8} {
			queue.Children(l, id)
			queue.Path(l, id)
			queue.Below(l, id)
			queue.Room(l, uses, id, v(1, 1))
		}
		queue.Sums(l, uses)
	}
	for _, list := range [][]api.Queue{tree(), chain(64), chain(65), {q(0, -1), q(2, 1)}, nil} {
		for _, some := range [][]api.Use{nil, {use(6, 1, 1), use(6, 2, 2)}, {use(2, 1, 1)}, {use(1, api.MaxRes, 0), use(1, 1, 0)}} {
			l, uses := roomy(list, q(-77, -77)), roomy(some, use(-77, -77, -77))
			oldList, oldUses := slices.Clone(l[:cap(l)]), slices.Clone(uses[:cap(uses)])
			ask(l, uses)
			if !slices.Equal(l[:cap(l)], oldList) || !slices.Equal(uses[:cap(uses)], oldUses) {
				t.Errorf("memory: a call with %v and %v changes them", list, some)
			}
		}
	}
}
