package command_test

import (
	"math"
	"slices"
	"testing"

	"furlong/api"
	"furlong/strip"
)

const most = api.MaxTasks

// Each list that a thing has, with n elements; those inside elements stand in the first, in a middle and in the last one.

func entriesWith(n int) map[string]api.Entry {
	return map[string]api.Entry{"Tickets": anEntry(ints(n)...)}
}

func answersWith(n int) map[string]api.Answer {
	all := map[string]api.Answer{
		"Cores":  {Cores: ints(n)},
		"Leases": {Leases: many(n, aLease(1))},
	}
	for name, at := range inside {
		leases := many(3, aLease(2))
		leases[at].Cores = ints(n)
		all["Cores of "+name] = api.Answer{Err: 1, Cores: []int{5}, Leases: leases}
	}
	return all
}

func statesWith(n int) map[string]api.State {
	all := map[string]api.State{
		"Queues": {Queues: many(n, aQueue())},
		"Nodes":  {Nodes: many(n, aNode())},
		"Tasks":  {Tasks: many(n, aTask(1))},
		"Leases": {Leases: many(n, aLease(1))},
		"Hungry": {Hungry: many(n, api.Hunger{Queue: 1, Since: 2})},
	}
	for name, at := range inside {
		tasks, leases := many(3, aTask(2)), many(3, aLease(2))
		tasks[at].Tickets, leases[at].Cores = ints(n), ints(n)
		all["Tickets of "+name] = api.State{Long: 1, Tasks: tasks, Leases: many(2, aLease())}
		all["Cores of "+name] = api.State{Long: 1, Tasks: many(2, aTask()), Leases: leases}
	}
	return all
}

var inside = map[string]int{"the first one": 0, "a middle one": 1, "the last one": 2}

func testLists[T any](t *testing.T, c coder[T], with func(n int) map[string]T) {
	t.Helper()
	for _, n := range []int{most - 1, most} {
		for name, x := range with(n) {
			checkBoth(t, c, name, x, plainly(x).b)
		}
	}
	for _, n := range []int{most + 1, most + 2, 5000} {
		for name, x := range with(n) {
			checkEncode(t, c, name, x, nil, api.ErrLong)
		}
	}
}

func TestListsOfTheMostElements(t *testing.T) {
	testLists(t, entries, entriesWith)
	testLists(t, answers, answersWith)
	testLists(t, states, statesWith)
}

func TestAllListsOfTheMostElements(t *testing.T) {
	full := ints(most)
	a := api.Answer{Cores: full, Leases: many(most, aLease(full...))}
	checkBoth(t, answers, "all full", a, plainly(a).b)
	s := api.State{Queues: many(most, aQueue()), Nodes: many(most, aNode()), Tasks: many(most, aTask(1, 2)), Leases: many(most, aLease(3)), Hungry: make([]api.Hunger, most)}
	s.Tasks[most-1].Tickets, s.Leases[most-1].Cores = full, full
	checkBoth(t, states, "all full", s, plainly(s).b)
	s.Leases[most-1].Cores = ints(most + 1)
	checkEncode(t, states, "all full, the last Cores above", s, nil, api.ErrLong)
	for _, n := range []int{most + 1, 3000} {
		over := api.State{Queues: many(n, aQueue()), Nodes: many(n, aNode()), Tasks: many(n, aTask(1)), Leases: many(n, aLease(3)), Hungry: make([]api.Hunger, n)}
		checkEncode(t, states, "all above", over, nil, api.ErrLong)
		checkEncode(t, answers, "all above", api.Answer{Cores: ints(n), Leases: over.Leases}, nil, api.ErrLong)
	}
}

func TestKindsBelowZero(t *testing.T) {
	for _, kind := range []int{-1, -2, -192, math.MinInt64 + 1, math.MinInt64} {
		for _, n := range []int{0, 1, most} {
			e := anEntry(ints(n)...)
			e.Command.Kind = kind
			checkEncode(t, entries, "a Kind below 0", e, nil, api.ErrArg)
		}
		checkEncode(t, entries, "a Kind below 0 and nothing else", api.Entry{Command: api.Command{Kind: kind}}, nil, api.ErrArg)
		long := anEntry(ints(most + 1)...)
		long.Command.Kind = kind
		checkEncode(t, entries, "a Kind below 0, and a list that is too long behind it", long, nil, api.ErrLong)
	}
}

func number(x uint64) []byte { return strip.Lay(nil, x) }

// One count above the most is told at its own place, whatever stands behind it or doesn't.
func testCounts[T any](t *testing.T, c coder[T], x T) {
	t.Helper()
	p := plainly(x)
	for _, m := range p.marks {
		if m.sort != count {
			continue
		}
		for _, n := range []uint64{most + 1, most + 2, 65983, 65984, math.MaxInt64, 1 << 63, math.MaxUint64} {
			told := slices.Concat(p.b[:m.at], number(n))
			checkFault(t, c, "a count above, at the end", told, m.at, api.ErrLong)
			checkFault(t, c, "a count above", slices.Concat(told, p.b[m.end:]), m.at, api.ErrLong)
			checkFault(t, c, "a count above, and as many bytes", append(told, make([]byte, 20000)...), m.at, api.ErrLong)
			for end := m.at; end < len(told); end++ {
				checkFault(t, c, "a count above, cut off", told[:end], end, api.ErrShort)
			}
		}
		told := slices.Concat(p.b[:m.at], number(most))
		checkFault(t, c, "the greatest count, at the end", told, len(told), api.ErrShort)
		told = append(told, make([]byte, most-1)...) // an element has one byte at least
		checkFault(t, c, "the greatest count, and one element less", told, len(told), api.ErrShort)
		told = slices.Concat(p.b[:m.at], number(most), many[byte](200000, 0xc8))
		checkFault(t, c, "the greatest count, and an element that is none", told, m.at+3, api.ErrForm)
	}
}

func TestCountsInBytes(t *testing.T) {
	testCounts(t, entries, anEntry(3, 4))
	testCounts(t, answers, anAnswer())
	testCounts(t, states, aState())
	if got := number(most); !slices.Equal(got, []byte{0xc1, 2, 0x40}) { // 448 + 576
		t.Errorf("the greatest count is %x", got)
	}
	b := slices.Concat([]byte{0, 0, 0, 0xc1, 2, 0x40}, make([]byte, most), []byte{0})
	checkBoth(t, answers, "1024 cores in bytes", api.Answer{Cores: make([]int, most)}, b)
	b[5]++
	checkFault(t, answers, "1025 cores in bytes", append(b, 0), 3, api.ErrLong)
	b = slices.Concat([]byte{0, 0, 0, 0, 0xc1, 2, 0x40}, make([]byte, 8*most))
	checkBoth(t, answers, "1024 leases in bytes", api.Answer{Leases: make([]api.Lease, most)}, b)
	b[6]++
	checkFault(t, answers, "1025 leases in bytes", append(b, make([]byte, 8)...), 4, api.ErrLong)
}
