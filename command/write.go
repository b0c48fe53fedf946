package command

import (
	"furlong/api"
	"furlong/strip"
)

// writer goes on behind a fault, for a list that is too long is told ahead of a Kind below 0, wherever they stand.
type writer struct {
	b         []byte
	longList  bool
	belowZero bool
}

func encode[T any](x T, whole func(*writer, T)) ([]byte, api.Errno) {
	w := &writer{}
	whole(w, x)
	switch {
	case w.longList:
		return nil, api.ErrLong
	case w.belowZero:
		return nil, api.ErrArg
	}
	return w.b, api.OK
}

// number hands strip no bytes ahead: it would copy them all for each number.
func (w *writer) number(x uint64) {
	w.b = append(w.b, strip.Lay(nil, x)...)
}

func (w *writer) int(x int) {
	layInts(w, x)
}

func layInts[T ~int | ~int64](w *writer, all ...T) {
	for _, x := range all {
		w.b = append(w.b, strip.LayInt(nil, int64(x))...)
	}
}

func layList[T any](w *writer, l []T, each func(T)) {
	if len(l) > api.MaxTasks {
		w.longList = true
		return
	}
	w.number(uint64(len(l)))
	for _, x := range l {
		each(x)
	}
}

func (w *writer) entry(e api.Entry) {
	layInts(w, e.Gap)
	layInts(w, e.Client, e.Seq)
	w.command(e.Command)
}

func (w *writer) command(c api.Command) {
	w.kind(c.Kind)
	layInts(w, c.Id, c.Inc, c.Beat)
	layInts(w, c.Since)
	w.queue(c.Queue)
	w.node(c.Node)
	w.task(c.Task)
}

func (w *writer) kind(k int) {
	if k < 0 {
		w.belowZero = true
		return
	}
	w.number(uint64(k))
}

func (w *writer) answer(a api.Answer) {
	layInts(w, a.Err)
	layInts(w, a.Task, a.Node)
	layList(w, a.Cores, w.int)
	layList(w, a.Leases, w.lease)
}

func (w *writer) state(s api.State) {
	layInts(w, s.Long, s.Patience, s.Now)
	layList(w, s.Queues, w.queue)
	layList(w, s.Nodes, w.node)
	layList(w, s.Tasks, w.task)
	layList(w, s.Leases, w.lease)
	layList(w, s.Hungry, w.hunger)
}

func (w *writer) vec(v api.Vec) {
	layInts(w, v.CPU, v.Mem)
}

func (w *writer) queue(q api.Queue) {
	layInts(w, q.Id, q.Parent)
	layInts(w, q.Weight)
	w.vec(q.Quota)
	w.vec(q.Min)
}

func (w *writer) node(n api.Node) {
	layInts(w, n.Id, n.Cores)
	layInts(w, n.Mem)
	layInts(w, n.Inc, n.Beat)
}

func (w *writer) task(t api.Task) {
	layInts(w, t.Id, t.Queue)
	w.vec(t.Need)
	layInts(w, t.Work)
	layList(w, t.Tickets, w.int)
	layInts(w, t.State)
}

func (w *writer) lease(l api.Lease) {
	layInts(w, l.Task, l.Queue, l.Node)
	layList(w, l.Cores, w.int)
	layInts(w, l.Mem, l.Since, l.Until)
	w.flag(l.Stop)
}

func (w *writer) flag(set bool) {
	if set {
		w.number(1)
		return
	}
	w.number(0)
}

func (w *writer) hunger(h api.Hunger) {
	layInts(w, h.Queue)
	layInts(w, h.Since)
}
