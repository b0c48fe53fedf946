package table_test

import (
	"math"
	"math/rand"
	"reflect"
	"testing"

	"furlong/api"
	"furlong/table"
)

// junk fills a thing with numbers at all ends, and its lists with some of that.
func junk(r *rand.Rand, x reflect.Value) {
	switch x.Kind() {
	case reflect.Struct:
		for i := range x.NumField() {
			junk(r, x.Field(i))
		}
	case reflect.Slice:
		n := r.Intn(5)
		x.Set(reflect.MakeSlice(x.Type(), n, n))
		for i := range n {
			junk(r, x.Index(i))
		}
	case reflect.Bool:
		x.SetBool(r.Intn(2) == 0)
	default:
		ends := []int64{0, 1, 2, 3, 4, -1, 64, 65, 1024, api.MaxRes, api.MaxRes + 1, math.MinInt64, math.MaxInt64}
		if r.Intn(3) > 0 {
			ends = ends[:5]
		}
		x.SetInt(ends[r.Intn(len(ends))])
	}
}

// ends asks P1: the calls end, and don't panic.
func ends(s api.State, c api.Command) {
	table.New(s.Queues, s.Long, s.Patience)
	for _, gap := range []int64{0, 1, s.Now, c.Since, -1, math.MaxInt64} {
		table.Elapse(s, gap)
	}
	for kind := range api.Round + 2 {
		c.Kind = kind
		table.Apply(s, c)
	}
}

func TestJunkEnds(t *testing.T) {
	r := rand.New(rand.NewSource(1))
	for range 4000 {
		var s api.State
		var c api.Command
		junk(r, reflect.ValueOf(&s).Elem())
		junk(r, reflect.ValueOf(&c).Elem())
		ends(s, c)
	}
}

// States that are nearly right go further into the calls than junk: one list is junk, or in the wrong order.
func TestNearlyRightStatesEnd(t *testing.T) {
	r := rand.New(rand.NewSource(2))
	right := full(t).s
	for i := range 4000 {
		s := tidied(right)
		v := reflect.ValueOf(&s).Elem()
		part := v.Field(i % v.NumField())
		if part.Kind() == reflect.Slice && r.Intn(3) > 0 {
			r.Shuffle(part.Len(), reflect.Swapper(part.Interface()))
			junk(r, part.Index(r.Intn(part.Len())))
		} else {
			junk(r, part)
		}
		all := append(changes(), wrongCommands()...)
		ends(s, all[r.Intn(len(all))])
	}
}

// Lists that are longer than any that commands make.
func TestLongListsEnd(t *testing.T) {
	s := full(t).s
	for range 5 {
		s.Queues = append(s.Queues, s.Queues...)
		s.Nodes = append(s.Nodes, s.Nodes...)
		s.Tasks = append(s.Tasks, s.Tasks...)
		s.Leases = append(s.Leases, s.Leases...)
		s.Hungry = append(s.Hungry, s.Hungry...)
	}
	for _, c := range append(changes(), wrongCommands()...) {
		ends(s, c)
	}
	for _, queues := range [][]api.Queue{trio(v(0, 0)), nil} {
		s.Queues = queues
		for _, c := range changes() {
			ends(s, c)
		}
	}
	ends(api.State{}, api.Command{})
}
