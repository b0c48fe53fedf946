package drf_test

import (
	"slices"
	"testing"

	"furlong/api"
	"furlong/drf"
)

// roomy is a copy of l with spare room behind it, in which marks stand.
func roomy[T any](l []T, mark T) []T {
	whole := append(slices.Clone(l), mark, mark, mark, mark)
	return whole[:len(l)]
}

// scribble writes over a list and all of its spare room.
func scribble[T any](l []T, mark T) {
	whole := l[:cap(l)]
	for i := range whole {
		whole[i] = mark
	}
}

// roomyCall is a copy of c whose lists have spare room.
func roomyCall(c call) call {
	c.l, c.uses, c.want = roomy(c.l, q(-77, -77, -77)), roomy(c.uses, use(-77, -77, -77)), roomy(c.want, -77)
	return c
}

// whole is a copy of c's lists with their spare room.
func whole(c call) call {
	c.l, c.uses, c.want = slices.Clone(c.l[:cap(c.l)]), slices.Clone(c.uses[:cap(c.uses)]), slices.Clone(c.want[:cap(c.want)])
	return c
}

func same(a, b call) bool {
	return slices.Equal(a.l, b.l) && slices.Equal(a.uses, b.uses) && slices.Equal(a.want, b.want)
}

func TestAnswersAreNewMemory(t *testing.T) {
	for _, c := range []call{
		right,
		{"one leaf", chain(1), nil, []int{0}, v(1, 1)},
		{"an order that is want's own", flat(1, 1, 1), nil, []int{1, 2, 3}, v(1, 1)},
		{"63 leaves", flat(make63(2)...), []api.Use{use(1, 1, 1)}, upTo(63), v(1, 1)},
	} {
		c = roomyCall(c)
		old := whole(c)
		first, _ := drf.Order(c.l, c.uses, c.want, c.total)
		second, _ := drf.Order(c.l, c.uses, c.want, c.total)
		order := slices.Clone(first)
		scribble(first, -99)
		if len(order) == 0 || !slices.Equal(second, order) {
			t.Errorf("memory: two answers of Order share some, or differ: %s", c.name)
		}
		if !same(whole(c), old) {
			t.Errorf("memory: Order changes what is handed in, or shares it: %s", c.name)
		}
		scribble(c.l, q(-55, -55, -55))
		scribble(c.uses, use(-55, -55, -55))
		scribble(c.want, -55)
		if !slices.Equal(second, order) {
			t.Errorf("memory: the answer of Order hangs on what was handed in: %s", c.name)
		}
	}
}

func TestArgumentsStay(t *testing.T) {
	for _, c := range []call{
		right,
		{"a wrong total", tree(), []api.Use{use(1, 1, 1)}, []int{1, 6}, v(-1, 0)},
		{"want falls", tree(), []api.Use{use(1, 1, 1)}, []int{6, 1}, v(6, 16)},
		{"want is no queue", tree(), nil, []int{1, 77}, v(6, 16)},
		{"want is no leaf", tree(), nil, []int{2, 6}, v(6, 16)},
		{"want is empty", tree(), nil, nil, v(6, 16)},
		{"a wrong use", tree(), []api.Use{use(2, 1, 1)}, []int{1}, v(6, 16)},
		{"a list that is too long", chain(65), nil, []int{64}, v(6, 16)},
	} {
		c = roomyCall(c)
		old := whole(c)
		drf.Choose(c.l, c.uses, c.want, c.total)
		drf.Order(c.l, c.uses, c.want, c.total)
		if !same(whole(c), old) {
			t.Errorf("memory: a call changes what is handed in: %s", c.name)
		}
	}
}
