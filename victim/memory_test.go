package victim_test

import (
	"slices"
	"testing"

	"furlong/api"
	"furlong/victim"
)

// roomy is a copy of l with spare room behind it, in which marks stand.
func roomy[T any](l []T, mark T) []T {
	whole := append(slices.Clone(l), mark, mark, mark, mark)
	return whole[:len(l)]
}

// scribble writes over a list and all of its spare room.
func scribble[T any](l []T, mark T) {
	whole := l[:cap(l)]
	for i := range whole {
		whole[i] = mark
	}
}

// given is what is handed in, with spare room behind each list.
type given struct {
	l      []api.Queue
	leases []api.Lease
	need   []api.Use
}

func give(l []api.Queue, leases []api.Lease, need []api.Use) given {
	g := given{roomy(l, q(-77, -77, v(-77, -77))), roomy(leases, lease(-77, -77, 1, -77)), roomy(need, use(-77, -77, -77))}
	for i := range g.leases {
		g.leases[i].Cores = roomy(g.leases[i].Cores, -77)
	}
	return g
}

// whole is a copy of all, with the spare room.
func (g given) whole() given {
	all := given{slices.Clone(g.l[:cap(g.l)]), slices.Clone(g.leases[:cap(g.leases)]), slices.Clone(g.need[:cap(g.need)])}
	for i, l := range all.leases {
		all.leases[i].Cores = slices.Clone(l.Cores[:cap(l.Cores)])
	}
	return all
}

func (g given) equal(h given) bool {
	return slices.Equal(g.l, h.l) && slices.Equal(g.need, h.need) && slices.EqualFunc(g.leases, h.leases, func(a, b api.Lease) bool {
		return a.Task == b.Task && a.Queue == b.Queue && a.Node == b.Node && slices.Equal(a.Cores, b.Cores) &&
			a.Mem == b.Mem && a.Since == b.Since && a.Until == b.Until && a.Stop == b.Stop
	})
}

func (g given) spoil() {
	for _, l := range g.leases {
		scribble(l.Cores, -55)
	}
	scribble(g.l, q(-55, -55, v(-55, -55)))
	scribble(g.leases, lease(-55, -55, 1, -55))
	scribble(g.need, use(-55, -55, -55))
}

// unshared asks a call twice, writes over the first answer, and looks at the arguments and at the second answer.
func unshared[T comparable](t *testing.T, name string, mark T, ask func(g given) []T) {
	t.Helper()
	g := give(tree(), []api.Lease{lease(9, 9, 2, 1), stop(lease(4, 1, 0, 1)), lease(5, 9, 0, 1)}, []api.Use{use(1, 1, 0), use(5, 2, 0), use(7, 0, 0)})
	old := g.whole()
	first, second := ask(g), ask(g)
	want := slices.Clone(first)
	scribble(first, mark)
	if len(want) == 0 || !slices.Equal(second, want) {
		t.Errorf("memory: two answers of %s share some, or differ", name)
	}
	if !g.whole().equal(old) {
		t.Errorf("memory: %s changes what is handed in, or shares it", name)
	}
	g.spoil()
	if !slices.Equal(second, want) {
		t.Errorf("memory: the answer of %s hangs on what was handed in", name)
	}
}

func TestAnswersAreNewMemory(t *testing.T) {
	unshared(t, "Uses", use(-99, -99, -99), func(g given) []api.Use {
		uses, _ := victim.Uses(g.leases)
		return uses
	})
	unshared(t, "Starved", -99, func(g given) []int {
		starved, _ := victim.Starved(g.l, g.leases, g.need)
		return starved
	})
}

func TestArgumentsStay(t *testing.T) {
	lists := [][]api.Lease{nil, {lease(3, 7, 1, 1)}, {lease(8, 7, 1, 1), stop(lease(7, 7, 2, 2)), lease(9, 1, 3, 3), lease(2, 5, 64, api.MaxRes/2)}}
	for _, c := range wrongLeases() {
		lists = append(lists, c.leases)
	}
	trees := [][]api.Queue{tree(), chain(64)}
	for _, l := range wrongLists() {
		trees = append(trees, l)
	}
	for _, leases := range lists {
		for _, l := range trees {
			for _, need := range append(wrongNeeds, []api.Use{use(1, 1, 1), use(7, 0, 0), use(9, 0, 0)}) {
				g := give(l, leases, need)
				old := g.whole()
				victim.Uses(g.leases)
				victim.Starved(g.l, g.leases, g.need)
				victim.Choose(g.l, g.leases, v(9, 9))
				victim.Choose(g.l, g.leases, v(-1, 9))
				if !g.whole().equal(old) {
					t.Errorf("memory: a call with %v, %v and %v changes them", l, leases, need)
				}
			}
		}
	}
}
