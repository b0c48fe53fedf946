package place_test

import (
	"slices"
	"testing"

	"furlong/api"
	"furlong/place"
)

// roomy is a copy of l with spare room behind it, in which marks stand.
func roomy[T any](l []T, mark T) []T {
	whole := append(slices.Clone(l), mark, mark, mark, mark)
	return whole[:len(l)]
}

// scribble writes over a list and all of its spare room.
func scribble[T any](l []T, mark T) {
	whole := l[:cap(l)]
	for i := range whole {
		whole[i] = mark
	}
}

// given is what is handed in, with spare room behind each list.
type given struct {
	nodes  []api.Node
	leases []api.Lease
}

func give(nodes []api.Node, leases []api.Lease) given {
	g := given{roomy(nodes, node(-77, -77, -77)), roomy(leases, lease(-77, -77, -77))}
	for i := range g.leases {
		g.leases[i].Cores = roomy(g.leases[i].Cores, -77)
	}
	return g
}

// whole is a copy of all, with the spare room.
func (g given) whole() given {
	all := given{slices.Clone(g.nodes[:cap(g.nodes)]), slices.Clone(g.leases[:cap(g.leases)])}
	for i, l := range all.leases {
		all.leases[i].Cores = slices.Clone(l.Cores[:cap(l.Cores)])
	}
	return all
}

func (g given) equal(h given) bool {
	return slices.Equal(g.nodes, h.nodes) && slices.EqualFunc(g.leases, h.leases, func(a, b api.Lease) bool {
		return a.Task == b.Task && a.Queue == b.Queue && a.Node == b.Node && slices.Equal(a.Cores, b.Cores) &&
			a.Mem == b.Mem && a.Since == b.Since && a.Until == b.Until && a.Stop == b.Stop
	})
}

// unshared asks a call twice, writes over the first answer, and looks at the arguments and at the second answer.
func unshared(t *testing.T, name string, ask func(g given) []int) {
	t.Helper()
	g := give([]api.Node{node(1, 4, 9), node(2, 2, 9), node(5, 64, 1)}, []api.Lease{lease(1, 4, 0, 2), lease(5, 0, 1, 2, 3, 60), lease(5, 1)})
	old := g.whole()
	first, second := ask(g), ask(g)
	want := slices.Clone(first)
	scribble(first, -99)
	if len(want) == 0 || !slices.Equal(second, want) {
		t.Errorf("memory: two answers of %s share some, or differ", name)
	}
	if !g.whole().equal(old) {
		t.Errorf("memory: %s changes what is handed in, or shares it", name)
	}
	for _, l := range g.leases {
		scribble(l.Cores, -55)
	}
	scribble(g.leases, lease(-55, -55, -55))
	scribble(g.nodes, node(-55, -55, -55))
	if !slices.Equal(second, want) {
		t.Errorf("memory: the answer of %s hangs on what was handed in", name)
	}
}

func TestAnswersAreNewMemory(t *testing.T) {
	for _, id := range []int{1, 2, 5} {
		unshared(t, "Free", func(g given) []int {
			cores, _, _ := place.Free(g.nodes, g.leases, id)
			return cores
		})
	}
	for _, need := range []api.Vec{v(1, 1), v(2, 1), v(3, 0), v(60, 0)} {
		unshared(t, "Find", func(g given) []int {
			_, cores, _ := place.Find(g.nodes, g.leases, need)
			return cores
		})
	}
}

// Behind the cores that are handed on there is no room: none of the cores that stay free can be reached from them.
func TestCoresEndWithTheirRoom(t *testing.T) {
	nodes := []api.Node{node(1, 64, 9), node(7, 3, 0)}
	for cpu := int64(1); cpu <= 64; cpu++ {
		_, cores, _ := place.Find(nodes, nil, v(cpu, 1))
		if int64(len(cores)) != cpu || cap(cores) != len(cores) {
			t.Errorf("ways: Find of %d cores has %d, and room for %d", cpu, len(cores), cap(cores))
		}
	}
	for _, id := range []int{1, 7} {
		if cores, _, _ := place.Free(nodes, nil, id); cap(cores) != len(cores) {
			t.Errorf("ways: Free has %d cores, and room for %d", len(cores), cap(cores))
		}
	}
}

func TestArgumentsStay(t *testing.T) {
	lists := [][]api.Lease{nil, {lease(1, 4, 0, 2)}}
	for _, leases := range badLeases() {
		lists = append(lists, leases)
	}
	for _, leases := range lists {
		for _, nodes := range [][]api.Node{nil, many(64), many(65), {node(0, 1, 0), node(1, 4, 9), node(4, 64, api.MaxRes)}, {node(3, 1, 1), node(2, 1, 1)}} {
			g := give(nodes, leases)
			old := g.whole()
			place.Total(g.nodes)
			for _, id := range []int{-1, 1, 4} {
				place.Free(g.nodes, g.leases, id)
			}
			for _, need := range []api.Vec{v(1, 0), v(3, 3), v(64, api.MaxRes), v(0, 0), v(1, -1)} {
				place.Find(g.nodes, g.leases, need)
			}
			if !g.whole().equal(old) {
				t.Errorf("memory: a call with %v and %v changes them", nodes, leases)
			}
		}
	}
}
