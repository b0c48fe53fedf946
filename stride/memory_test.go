package stride_test

import (
	"slices"
	"testing"

	"furlong/stride"
)

// scribble writes over a list and all of its spare room.
func scribble[T any](l []T, mark T) {
	whole := l[:cap(l)]
	for i := range whole {
		whole[i] = mark
	}
}

func TestListIsNewMemory(t *testing.T) {
	g := stride.New()
	var want []stride.Client
	for id := range 40 { // at some counts the group has spare room, at others none
		g.Join(id, 1+id%16, int64(id))
		want = append(want, c(id, 1+id%16, int64(id)))
		first, second := g.List(), g.List()
		scribble(first, c(-99, -99, -99))
		if !slices.Equal(second, want) {
			t.Errorf("memory: two answers of List share some, or differ: %v; want %v", second, want)
		}
		holds(t, "a List was written over", g, want...)
		_ = append(g.List(), c(-99, -99, -99))
		g.Join(1000, 1, 5)
		holds(t, "a List was appended to", g, append(want[:len(want):len(want)], c(1000, 1, 5))...)
		g.Leave(1000)
	}
}

// An answer stays as it was told, whatever the group does then.
func TestAnswersStay(t *testing.T) {
	g := group(t, c(1, 1, 0), c(2, 2, 5), c(3, 3, 9))
	list := g.List()
	quanta, _ := g.Run(7)
	listWas, quantaWas := []stride.Client{c(1, 1, 0), c(2, 2, 5), c(3, 3, 9)}, slices.Clone(quanta)
	g.Run(50)
	g.Change(2, 9)
	g.Leave(1)
	g.Join(7, 1, 0)
	if !slices.Equal(list, listWas) || !slices.Equal(quanta, quantaWas) {
		t.Errorf("memory: what was told becomes %v, %v; was %v, %v", list, quanta, listWas, quantaWas)
	}
}

func TestRunIsNewMemory(t *testing.T) {
	a, b := group(t, c(1, 1, 0), c(2, 2, 0)), group(t, c(1, 1, 0), c(2, 2, 0))
	for n := range 30 {
		first, _ := a.Run(n)
		b.Run(n)
		scribble(first, -99)
		got, _ := a.Run(n)
		want, _ := b.Run(n)
		if !slices.Equal(got, want) || !slices.Equal(a.List(), b.List()) {
			t.Errorf("memory: a Run(%d) that is written over changes the next one: %v; want %v", n, got, want)
		}
	}
}
