package command_test

import (
	"fmt"
	"math"
	"slices"
	"testing"

	"furlong/api"
)

func testCuts[T any](t *testing.T, c coder[T], all []T) {
	t.Helper()
	for _, x := range all {
		b := plainly(x).b
		for end := range min(len(b), 1000) {
			checkFault(t, c, "cut off", b[:end:end], end, api.ErrShort)
			checkFault(t, c, "cut off, with the rest in its spare room", b[:end], end, api.ErrShort)
		}
		for _, more := range [][]byte{{0}, {1}, {191}, {192}, {0xc8}, {0xff}, {0, 0}, {0xc7, 0xff, 0xff}, b, make([]byte, 3000)} {
			checkFault(t, c, "bytes behind", slices.Concat(b, more), len(b), api.ErrExtra)
		}
	}
	checkFault(t, c, "nil", nil, 0, api.ErrShort)
	checkFault(t, c, "no bytes", []byte{}, 0, api.ErrShort)
}

func TestBytesCutOffAndBytesBehind(t *testing.T) {
	testCuts(t, entries, someEntries())
	testCuts(t, answers, someAnswers())
	testCuts(t, states, someStates())
}

// wrong is bytes that stand in the place of a number, and the fault that they are.
type wrong struct {
	b   []byte
	err api.Errno
}

// wrongs is what may not stand in the place of a number of that sort.
func wrongs(sort string) []wrong {
	all := []wrong{
		{[]byte{0xc8}, api.ErrForm},
		{[]byte{0xff}, api.ErrForm},
		{[]byte{0xc7, 0xff, 0, 0, 0, 0, 0, 0, 0}, api.ErrForm},                      // above 2^64 - 1
		{[]byte{0xc7, 0xfe, 0xfe, 0xfe, 0xfe, 0xfe, 0xfe, 0xfe, 0x40}, api.ErrForm}, // by one
	}
	switch sort {
	case count:
		all = append(all, wrong{number(most + 1), api.ErrLong}, wrong{number(math.MaxUint64), api.ErrLong})
	case kind:
		all = append(all, wrong{number(math.MaxInt64 + 1), api.ErrForm}, wrong{number(math.MaxUint64), api.ErrForm})
	case flag:
		for _, n := range []uint64{2, 3, 191, 192, 257, 1 << 32, math.MaxUint64} {
			all = append(all, wrong{number(n), api.ErrForm})
		}
	}
	return all
}

// with puts other bytes in the place of a number.
func (p paper) with(m mark, other []byte) []byte {
	return slices.Concat(p.b[:m.at], other, p.b[m.end:])
}

func testWrongNumbers[T any](t *testing.T, c coder[T], x T) {
	t.Helper()
	p := plainly(x)
	for _, m := range p.marks {
		for _, w := range wrongs(m.sort) {
			what := fmt.Sprintf("%x for the %s at %d", w.b, m.sort, m.at)
			checkFault(t, c, what, p.with(m, w.b), m.at, w.err)
			checkFault(t, c, what+", at the end", slices.Concat(p.b[:m.at], w.b), m.at, w.err)
			checkFault(t, c, what+", and one byte more", append(p.with(m, w.b), 0), m.at, w.err)
			for end := m.at + 1; end < m.at+len(w.b); end++ {
				checkFault(t, c, what+", cut off inside", p.with(m, w.b)[:end], end, api.ErrShort)
			}
		}
	}
}

func TestNumbersThatMayNotStandThere(t *testing.T) {
	testWrongNumbers(t, entries, anEntry(3, 4))
	testWrongNumbers(t, answers, anAnswer())
	testWrongNumbers(t, states, aState())
}

// Of two faults the one that stands ahead is told.
func testTwoFaults[T any](t *testing.T, c coder[T], x T) {
	t.Helper()
	p := plainly(x)
	for i, first := range p.marks {
		for _, second := range p.marks[i+1:] {
			for _, w := range wrongs(first.sort) {
				for _, u := range wrongs(second.sort) {
					b := slices.Concat(p.b[:first.at], w.b, p.b[first.end:second.at], u.b, p.b[second.end:])
					if got, at, err := c.decode(b); !same(got, *new(T)) || at != first.at || err != w.err {
						t.Errorf("errors: Decode%s with %x at %d and %x behind it: %v, %d, %d; want %d", c.name, w.b, first.at, u.b, got, at, err, w.err)
					}
				}
			}
		}
	}
}

func TestOfTwoFaultsTheFirstOneIsTold(t *testing.T) {
	testTwoFaults(t, entries, anEntry(3))
	testTwoFaults(t, answers, api.Answer{Task: 300, Cores: []int{1}, Leases: []api.Lease{aLease(1), {}}})
	testTwoFaults(t, states, api.State{Now: 1, Queues: []api.Queue{aQueue()}, Nodes: []api.Node{{}}, Tasks: []api.Task{aTask(2)}, Leases: []api.Lease{aLease(3)}, Hungry: []api.Hunger{{}}})
}

// A fault of a number stands ahead of the end of the bytes, though they are cut off behind it.
func TestFaultsByHand(t *testing.T) {
	for _, c := range []struct {
		what  string
		b     []byte
		place int
		err   api.Errno
	}{
		{"a Stop of 2", []byte{0, 0, 0, 0, 1, 0, 0, 0, 0, 0, 0, 0, 2}, 12, api.ErrForm},
		{"a Stop of 2, and one byte more", []byte{0, 0, 0, 0, 1, 0, 0, 0, 0, 0, 0, 0, 2, 0}, 12, api.ErrForm},
		{"a Stop of 2, and the next lease is missing", []byte{0, 0, 0, 0, 2, 0, 0, 0, 0, 0, 0, 0, 2}, 12, api.ErrForm},
		{"a Stop of 1, and the next lease is missing", []byte{0, 0, 0, 0, 2, 0, 0, 0, 0, 0, 0, 0, 1}, 13, api.ErrShort},
		{"a Stop of 300", []byte{0, 0, 0, 0, 1, 0, 0, 0, 0, 0, 0, 0, 0xc0, 108}, 12, api.ErrForm},
		{"a Stop that is cut off", []byte{0, 0, 0, 0, 1, 0, 0, 0, 0, 0, 0, 0, 0xc0}, 13, api.ErrShort},
		{"no Stop", []byte{0, 0, 0, 0, 1, 0, 0, 0, 0, 0, 0, 0}, 12, api.ErrShort},
		{"1025 cores, and no more", []byte{0, 0, 0, 0xc1, 2, 0x41}, 3, api.ErrLong},
		{"1025 leases, and no more", []byte{0, 0, 0, 0, 0xc1, 2, 0x41}, 4, api.ErrLong},
		{"1025 cores of a lease", []byte{0, 0, 0, 0, 1, 0, 0, 0, 0xc1, 2, 0x41}, 8, api.ErrLong},
		{"1025 cores, then a head that is none", []byte{0, 0, 0, 0xc1, 2, 0x41, 0xc8}, 3, api.ErrLong},
		{"a head that is none, then 1025 cores", []byte{0, 0, 0xc8, 0xc1, 2, 0x41}, 2, api.ErrForm},
		{"a core that is none, then 1025 leases", []byte{0, 0, 0, 1, 0xc8, 0xc1, 2, 0x41}, 4, api.ErrForm},
		{"the first byte is none", []byte{0xc8}, 0, api.ErrForm},
		{"the last byte of a number is missing", []byte{0, 0xc1, 7}, 3, api.ErrShort},
	} {
		checkFault(t, answers, c.what, c.b, c.place, c.err)
	}
	kinds := slices.Concat([]byte{0, 0, 0}, number(math.MaxUint64))
	checkFault(t, entries, "a Kind of 2^64 - 1, and no more", kinds, 3, api.ErrForm)
	checkFault(t, entries, "a Kind of 2^64 - 1, then a head that is none", append(kinds, 0xc8), 3, api.ErrForm)
	checkFault(t, entries, "a Kind of 2^64 - 1, cut off", kinds[:11], 11, api.ErrShort)
	checkFault(t, entries, "a Gap that is none, then such a Kind", append([]byte{0xc8}, kinds[1:]...), 0, api.ErrForm)
}

func TestStopsInBytes(t *testing.T) {
	b := []byte{0, 0, 0, 0, 1, 0, 0, 0, 0, 0, 0, 0, 0}
	checkBoth(t, answers, "a Stop of 0", api.Answer{Leases: []api.Lease{{}}}, slices.Clone(b))
	b[12] = 1
	checkBoth(t, answers, "a Stop of 1", api.Answer{Leases: []api.Lease{{Stop: true}}}, slices.Clone(b))
	for x := 2; x < 192; x++ {
		b[12] = byte(x)
		checkFault(t, answers, "a Stop above 1", b, 12, api.ErrForm)
	}
}
