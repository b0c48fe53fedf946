package audit_test

import (
	"math"
	"math/rand"
	"reflect"
	"testing"

	"furlong/api"
	"furlong/audit"
)

// junk fills a thing with numbers at all ends, and its lists with some of that.
func junk(r *rand.Rand, x reflect.Value) {
	switch x.Kind() {
	case reflect.Struct:
		for i := range x.NumField() {
			junk(r, x.Field(i))
		}
	case reflect.Slice:
		n := r.Intn(5)
		x.Set(reflect.MakeSlice(x.Type(), n, n))
		for i := range n {
			junk(r, x.Index(i))
		}
	case reflect.Bool:
		x.SetBool(r.Intn(2) == 0)
	default:
		ends := []int64{0, 1, 2, 3, 4, -1, 64, 65, 1024, api.MaxRes, math.MinInt64, math.MaxInt64}
		if r.Intn(3) > 0 {
			ends = ends[:5]
		}
		x.SetInt(ends[r.Intn(len(ends))])
	}
}

// P1: Check ends, and doesn't panic, of junk, and of a state of which one list is junk.
func TestJunkEnds(t *testing.T) {
	r := rand.New(rand.NewSource(1))
	for i := range 20000 {
		var s api.State
		junk(r, reflect.ValueOf(&s).Elem())
		audit.Check(s)
		s = right()
		v := reflect.ValueOf(&s).Elem()
		junk(r, v.Field(i%v.NumField()))
		audit.Check(s)
	}
	audit.Check(api.State{})
}

func TestLongListsEnd(t *testing.T) {
	s := api.State{Long: 40, Queues: []api.Queue{q(0, -1, 1, 1)}}
	for id := range 3000 {
		s.Nodes = append(s.Nodes, api.Node{Id: id, Cores: 64, Mem: 1})
		s.Tasks = append(s.Tasks, task(id, 0, 1, 1, api.Leased))
		s.Leases = append(s.Leases, lease(id, 0, id, 1, 0))
	}
	if got := audit.Check(s); len(got) != 3001 || got[0] != problem(audit.OverQuota, 0) || got[3000] != problem(audit.Timeless, 2999) {
		t.Errorf("P12.1: Check of 3000 leases tells %d problems", len(got))
	}
	for at := range s.Leases {
		s.Leases[at].Node = 0
	}
	if got := audit.Check(s); len(got) != 3003 {
		t.Errorf("P12.1: Check of 3000 leases on one node tells %d problems", len(got))
	}
}
