package drf_test

import (
	"testing"

	"furlong/api"
	"furlong/drf"
)

func TestChapterExample(t *testing.T) {
	l := flat(1, 2)
	total := v(6, 16)
	if got, err := drf.Choose(l, []api.Use{use(1, 1, 0), use(2, 1, 0)}, []int{1, 2}, total); got != 2 || err != api.OK {
		t.Errorf("example 1: Choose = %d, %d; want 2", got, err)
	}
	call{"example 1", l, []api.Use{use(1, 1, 0), use(2, 2, 0)}, []int{1, 2}, total}.tells(t, 1, 2)
}

func TestOneLeafAlone(t *testing.T) {
	call{"the root alone", chain(1), nil, []int{0}, v(6, 16)}.tells(t, 0)
	call{"the root alone, which uses something", chain(1), []api.Use{use(0, 3, 3)}, []int{0}, v(6, 16)}.tells(t, 0)
	call{"one of two that uses less", flat(1, 1), []api.Use{use(2, 5, 5)}, []int{1}, v(6, 16)}.tells(t, 1)
	call{"one of two that uses more", flat(1, 1), []api.Use{use(2, 5, 5)}, []int{2}, v(6, 16)}.tells(t, 2)
	call{"the last of 64 in a row", chain(64), nil, []int{63}, v(6, 16)}.tells(t, 63)
	for _, id := range []int{1, 6, 7, 8, 9} {
		call{"one branch of several levels alone", tree(), []api.Use{use(id, 5, 5)}, []int{id}, v(6, 16)}.tells(t, id)
	}
}

func TestTheLeastShare(t *testing.T) {
	total := v(10, 100)
	for _, c := range []struct {
		name  string
		l     []api.Queue
		uses  []api.Use
		order []int
	}{
		{"cores alone", flat(1, 1, 1), []api.Use{use(1, 3, 0), use(2, 1, 0), use(3, 2, 0)}, []int{2, 3, 1}},
		{"memory alone", flat(1, 1, 1), []api.Use{use(1, 0, 3), use(2, 0, 2), use(3, 0, 1)}, []int{3, 2, 1}},
		{"memory against cores", flat(1, 1, 1), []api.Use{use(1, 3, 0), use(2, 0, 29), use(3, 0, 31)}, []int{2, 1, 3}},
		{"the greater of both counts, not their sum", flat(1, 1), []api.Use{use(1, 4, 0), use(2, 3, 30)}, []int{2, 1}},
		{"the greater of both counts, not the lesser", flat(1, 1), []api.Use{use(1, 5, 0), use(2, 4, 40)}, []int{2, 1}},
		{"who uses nothing is first", flat(1, 1, 1), []api.Use{use(1, 0, 1), use(2, 1, 0)}, []int{3, 1, 2}},
		{"a leaf whose uses are in pieces", flat(1, 1), []api.Use{use(1, 1, 0), use(2, 2, 0), use(1, 2, 0)}, []int{2, 1}},
		{"more than all", flat(1, 1), []api.Use{use(1, 30, 0), use(2, 20, 0)}, []int{2, 1}},
		{"weights", flat(1, 2, 3), []api.Use{use(1, 2, 0), use(2, 3, 0), use(3, 5, 0)}, []int{2, 3, 1}},
		{"weights over memory and cores", flat(4, 1), []api.Use{use(1, 4, 0), use(2, 0, 11)}, []int{1, 2}},
		{"shares a hair apart", flat(3, 3), []api.Use{use(1, api.MaxRes/2, 0), use(2, api.MaxRes/2-1, 0)}, []int{2, 1}},
	} {
		want := []int{1, 2, 3}[:len(c.order)]
		call{c.name, c.l, c.uses, want, total}.tells(t, c.order...)
	}
}

func TestChildrenAlike(t *testing.T) {
	total := v(12, 24)
	all := []int{1, 2, 3}
	call{"none uses anything", flat(1, 1, 1), nil, all, total}.tells(t, 1, 2, 3)
	call{"uses of nothing", flat(5, 1, 9), []api.Use{use(3, 0, 0), use(1, 0, 0)}, all, total}.tells(t, 1, 2, 3)
	call{"the same uses", flat(2, 2, 2), []api.Use{use(3, 3, 1), use(2, 3, 1), use(1, 3, 1)}, all, total}.tells(t, 1, 2, 3)
	call{"the same share of cores and of memory", flat(1, 1, 1), []api.Use{use(1, 3, 0), use(2, 0, 6), use(3, 3, 6)}, all, total}.tells(t, 1, 2, 3)
	call{"the same share by weight", flat(3, 1, 2), []api.Use{use(1, 3, 0), use(2, 1, 0), use(3, 0, 4)}, all, total}.tells(t, 1, 2, 3)
	call{"two alike behind one", flat(1, 1, 1), []api.Use{use(1, 2, 0), use(2, 2, 0), use(3, 1, 0)}, all, total}.tells(t, 3, 1, 2)
	call{"63 alike", flat(make63(7)...), nil, upTo(63), total}.tells(t, upTo(63)...)
}

func make63(weight int64) []int64 {
	l := make([]int64, 63)
	for i := range l {
		l[i] = weight
	}
	return l
}

func upTo(n int) []int {
	var l []int
	for i := range n {
		l = append(l, i+1)
	}
	return l
}

func TestWeightsAtTheirEnds(t *testing.T) {
	total := v(api.MaxRes, api.MaxRes)
	both := []int{1, 2}
	call{"1 and MaxWeight, the same uses", flat(1, api.MaxWeight), []api.Use{use(1, 1, 0), use(2, 1, 0)}, both, total}.tells(t, 2, 1)
	call{"1 and MaxWeight, just alike", flat(1, api.MaxWeight), []api.Use{use(1, 1, 0), use(2, api.MaxWeight, 0)}, both, total}.tells(t, 1, 2)
	call{"1 and MaxWeight, one less", flat(1, api.MaxWeight), []api.Use{use(1, 1, 0), use(2, api.MaxWeight-1, 0)}, both, total}.tells(t, 2, 1)
	call{"MaxWeight and 1, one more", flat(api.MaxWeight, 1), []api.Use{use(1, api.MaxWeight+1, 0), use(2, 1, 0)}, both, total}.tells(t, 2, 1)
	call{"MaxWeight twice", flat(api.MaxWeight, api.MaxWeight), []api.Use{use(1, 0, 3), use(2, 2, 0)}, both, total}.tells(t, 2, 1)
	call{"MaxWeight and one less", flat(api.MaxWeight-1, api.MaxWeight), []api.Use{use(1, api.MaxRes/2, 0), use(2, api.MaxRes/2, 0)}, both, total}.tells(t, 2, 1)
	call{"nothing is nothing, whatever the weight", flat(1, api.MaxWeight), nil, both, total}.tells(t, 1, 2)
}

func TestTotalWithAPartOfNought(t *testing.T) {
	all := []int{1, 2, 3}
	call{"no cores at all", flat(1, 1, 1), []api.Use{use(1, 1, 0), use(2, 0, 8), use(3, 0, 7)}, all, v(0, 8)}.tells(t, 3, 2, 1)
	call{"no memory at all", flat(1, 1, 1), []api.Use{use(1, 0, 1), use(2, 9, 0), use(3, 8, 0)}, all, v(8, 0)}.tells(t, 3, 2, 1)
	call{"nothing at all", flat(1, 1, 1), []api.Use{use(1, 1, 0), use(2, 0, 1)}, all, v(0, 0)}.tells(t, 3, 1, 2)
	call{"no cores, each uses some: alike, whatever the weight", flat(1, 2, api.MaxWeight), []api.Use{use(1, 9, 0), use(2, 5, 3), use(3, 1, 0)}, all, v(0, 8)}.tells(t, 1, 2, 3)
	call{"no weight makes up for cores that aren't there", flat(api.MaxWeight, 1), []api.Use{use(1, 1, 0), use(2, 0, api.MaxRes)}, []int{1, 2}, v(0, 1)}.tells(t, 2, 1)
	call{"nothing at all, and none uses anything", flat(1, 2, 3), nil, all, v(0, 0)}.tells(t, 1, 2, 3)
}

// The branch is chosen by what all its leaves use, those too that want nothing; only then do the leaves count.
func TestBranchByBranch(t *testing.T) {
	total := v(20, 20)
	all := []int{1, 6, 7, 8, 9}
	deep := []int{6, 8, 9}
	for _, c := range []struct {
		name  string
		l     []api.Queue
		uses  []api.Use
		want  []int
		order []int
	}{
		{"all leaves, none uses anything", tree(), nil, all, []int{1, 6, 8, 9, 7}},
		{"a leaf that uses nothing in a branch that uses much", tree(), []api.Use{use(1, 3, 0), use(9, 5, 0), use(7, 4, 0)}, []int{1, 6, 7}, []int{1, 7, 6}},
		{"a leaf that uses more than another branch's leaf, in a branch that uses less", tree(), []api.Use{use(1, 4, 0), use(6, 3, 0)}, []int{1, 6}, []int{6, 1}},
		{"a branch's sum is of all levels", tree(), []api.Use{use(6, 2, 0), use(8, 2, 0), use(9, 1, 0), use(1, 4, 0)}, []int{1, 6}, []int{1, 6}},
		{"what stands beside the wanted leaves counts", tree(), []api.Use{use(8, 2, 0), use(9, 1, 0)}, deep, []int{9, 6, 8}},
		{"only one branch of several levels", tree(), []api.Use{use(8, 9, 9), use(6, 8, 8)}, []int{6, 8}, []int{6, 8}},
		{"only one branch, the others use less", tree(), []api.Use{use(9, 1, 0), use(6, 2, 0)}, deep, []int{9, 8, 6}},
		{"the weight of a branch", with(tree(), 2, q(2, 0, 3)), []api.Use{use(1, 2, 0), use(9, 5, 0)}, []int{1, 6}, []int{6, 1}},
		{"the weight of a leaf counts among its siblings alone", with(tree(), 4, q(6, 5, 9)), []api.Use{use(1, 2, 0), use(6, 5, 0)}, []int{1, 6, 8}, []int{1, 8, 6}},
		{"the weight of the root counts nowhere", with(tree(), 0, q(0, -1, api.MaxWeight)), []api.Use{use(1, 2, 0), use(9, 1, 0)}, []int{1, 9}, []int{9, 1}},
		{"branches alike: the least Id of the branch", []api.Queue{q(0, -1, 1), q(1, 0, 1), q(2, 0, 1), q(3, 2, 1), q(4, 1, 1)}, []api.Use{use(3, 1, 0), use(4, 1, 0)}, []int{3, 4}, []int{4, 3}},
		{"dominant shares of branches, not of their leaves", []api.Queue{q(0, -1, 1), q(1, 0, 1), q(2, 0, 1), q(3, 1, 1), q(4, 1, 1)}, []api.Use{use(3, 6, 0), use(4, 0, 6), use(2, 7, 0)}, []int{2, 3, 4}, []int{3, 4, 2}},
	} {
		call{c.name, c.l, c.uses, c.want, total}.tells(t, c.order...)
	}
}

// Quotas and guarantees are other chapters' matter.
func TestQuotaAndMinDoNotCount(t *testing.T) {
	l := flat(1, 1)
	l[0].Min, l[2].Min = v(9, 9), v(9, 9)
	l[1].Quota = v(0, 0)
	call{"a Quota that is broken, a Min that isn't met", l, []api.Use{use(1, 1, 0), use(2, 2, 0)}, []int{1, 2}, v(20, 20)}.tells(t, 1, 2)
}

func TestSumsAtMaxRes(t *testing.T) {
	total := v(api.MaxRes, api.MaxRes)
	call{"sums of MaxRes", flat(1, 1), []api.Use{use(1, api.MaxRes, 0), use(2, 0, api.MaxRes)}, []int{1, 2}, total}.tells(t, 1, 2)
	call{"sums of MaxRes, one less", flat(1, 1), []api.Use{use(1, api.MaxRes, 0), use(2, 0, api.MaxRes-1)}, []int{1, 2}, total}.tells(t, 2, 1)
}
