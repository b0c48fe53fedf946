package command

import (
	"iter"
	"math"

	"furlong/api"
	"furlong/strip"
)

// reader goes from the front on. At a fault it stays, and tells zeros from then on, so that the first fault is the one that is told. The fields of a thing are read in the order in which its literal names them.
type reader struct {
	b   []byte
	at  int
	err api.Errno
}

func decode[T any](b []byte, whole func(*reader) T) (T, int, api.Errno) {
	r := &reader{b: b}
	x := whole(r)
	if r.err == api.OK && r.at < len(b) {
		r.err = api.ErrExtra
	}
	if r.err != api.OK {
		var none T
		return none, r.at, r.err
	}
	return x, 0, api.OK
}

func take[T any](r *reader, read func([]byte, int) (T, int, api.Errno)) T {
	var x T
	if r.err == api.OK {
		x, r.at, r.err = read(r.b, r.at)
	}
	return x
}

func (r *reader) int() int {
	return int(r.int64())
}

func (r *reader) int64() int64 {
	return take(r, strip.ReadInt)
}

// upTo reads a number; the fault of a greater one than most is told at the number's own place.
func (r *reader) upTo(most uint64, fault api.Errno) uint64 {
	at := r.at
	x := take(r, strip.Read)
	if x > most {
		r.at, r.err = at, fault
		return 0
	}
	return x
}

func list[T any](r *reader, read func() T) []T {
	var l []T
	for x := range elements(r, read) {
		l = append(l, x)
	}
	return l
}

// elements yields as many as the count tells, and ends at the first fault: a count may tell more than there is.
func elements[T any](r *reader, read func() T) iter.Seq[T] {
	return func(yield func(T) bool) {
		for range r.upTo(api.MaxTasks, api.ErrLong) {
			x := read()
			if r.err != api.OK || !yield(x) {
				return
			}
		}
	}
}

func (r *reader) entry() api.Entry {
	return api.Entry{Gap: r.int64(), Client: r.int(), Seq: r.int(), Command: r.command()}
}

func (r *reader) command() api.Command {
	return api.Command{
		Kind:  int(r.upTo(math.MaxInt64, api.ErrForm)),
		Id:    r.int(),
		Inc:   r.int(),
		Beat:  r.int(),
		Since: r.int64(),
		Queue: r.queue(),
		Node:  r.node(),
		Task:  r.task(),
	}
}

func (r *reader) answer() api.Answer {
	return api.Answer{
		Err:    api.Errno(r.int()),
		Task:   r.int(),
		Node:   r.int(),
		Cores:  list(r, r.int),
		Leases: list(r, r.lease),
	}
}

func (r *reader) state() api.State {
	return api.State{
		Long:     r.int64(),
		Patience: r.int64(),
		Now:      r.int64(),
		Queues:   list(r, r.queue),
		Nodes:    list(r, r.node),
		Tasks:    list(r, r.task),
		Leases:   list(r, r.lease),
		Hungry:   list(r, r.hunger),
	}
}

func (r *reader) vec() api.Vec {
	return api.Vec{CPU: r.int64(), Mem: r.int64()}
}

func (r *reader) queue() api.Queue {
	return api.Queue{Id: r.int(), Parent: r.int(), Weight: r.int64(), Quota: r.vec(), Min: r.vec()}
}

func (r *reader) node() api.Node {
	return api.Node{Id: r.int(), Cores: r.int(), Mem: r.int64(), Inc: r.int(), Beat: r.int()}
}

func (r *reader) task() api.Task {
	return api.Task{
		Id:      r.int(),
		Queue:   r.int(),
		Need:    r.vec(),
		Work:    r.int(),
		Tickets: list(r, r.int),
		State:   r.int(),
	}
}

func (r *reader) lease() api.Lease {
	return api.Lease{
		Task:  r.int(),
		Queue: r.int(),
		Node:  r.int(),
		Cores: list(r, r.int),
		Mem:   r.int64(),
		Since: r.int64(),
		Until: r.int64(),
		Stop:  r.upTo(1, api.ErrForm) == 1,
	}
}

func (r *reader) hunger() api.Hunger {
	return api.Hunger{Queue: r.int(), Since: r.int64()}
}
