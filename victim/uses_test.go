package victim_test

import (
	"math"
	"testing"

	"furlong/api"
)

func TestUses(t *testing.T) {
	for _, c := range []struct {
		name   string
		leases []api.Lease
		want   []api.Use
	}{
		{"no leases", nil, nil},
		{"an empty list", []api.Lease{}, nil},
		{"one lease", []api.Lease{lease(3, 2, 4, 7)}, []api.Use{use(2, 4, 7)}},
		{"several leases of one queue", []api.Lease{lease(3, 2, 4, 7), lease(4, 2, 1, 0), lease(9, 2, 0, 5)}, []api.Use{use(2, 5, 12)}},
		{"queues that fall", []api.Lease{lease(1, 9, 1, 1), lease(2, 5, 2, 2), lease(3, 1, 3, 3)}, []api.Use{use(1, 3, 3), use(5, 2, 2), use(9, 1, 1)}},
		{"queues in turns", []api.Lease{lease(1, 2, 1, 1), lease(2, 1, 2, 2), lease(3, 2, 3, 3), lease(4, 1, 4, 4)}, []api.Use{use(1, 6, 6), use(2, 4, 4)}},
		{"a lease of nothing is one too", []api.Lease{lease(1, 4, 0, 0)}, []api.Use{use(4, 0, 0)}},
		{"memory without cores", []api.Lease{lease(1, 4, 0, 6)}, []api.Use{use(4, 0, 6)}},
		{"cores without memory", []api.Lease{lease(1, 4, 6, 0)}, []api.Use{use(4, 6, 0)}},
		{"one that is Stop", []api.Lease{stop(lease(1, 4, 2, 3))}, []api.Use{use(4, 2, 3)}},
		{"one that is Stop among others", []api.Lease{lease(1, 4, 2, 3), stop(lease(2, 4, 1, 1)), stop(lease(3, 1, 5, 5))}, []api.Use{use(1, 5, 5), use(4, 3, 4)}},
		{"any number is a queue", []api.Lease{lease(1, math.MaxInt, 1, 1), lease(2, 0, 2, 2), lease(3, -1, 3, 3), lease(4, math.MinInt, 4, 4)},
			[]api.Use{use(math.MinInt, 4, 4), use(-1, 3, 3), use(0, 2, 2), use(math.MaxInt, 1, 1)}},
		{"the same task twice", []api.Lease{lease(1, 1, 1, 1), lease(1, 1, 1, 1)}, []api.Use{use(1, 2, 2)}},
		{"cores are counted, whatever they are", []api.Lease{{Queue: 1, Cores: []int{5, 5, -3, math.MaxInt}}}, []api.Use{use(1, 4, 0)}},
	} {
		checkUses(t, c.name, c.leases, c.want, api.OK)
	}
}

func TestUsesAtTheEnds(t *testing.T) {
	most := lease(1, 1, 0, api.MaxRes)
	checkUses(t, "MaxCores cores", []api.Lease{lease(1, 1, api.MaxCores, 0)}, []api.Use{use(1, api.MaxCores, 0)}, api.OK)
	checkUses(t, "more than MaxCores cores of several", []api.Lease{lease(1, 1, api.MaxCores, 0), lease(2, 1, api.MaxCores, 0)}, []api.Use{use(1, 2*api.MaxCores, 0)}, api.OK)
	checkUses(t, "one core more", []api.Lease{lease(1, 1, api.MaxCores+1, 0)}, nil, api.ErrArg)
	checkUses(t, "Mem MaxRes", []api.Lease{most}, []api.Use{use(1, 0, api.MaxRes)}, api.OK)
	checkUses(t, "Mem MaxRes together", []api.Lease{lease(1, 1, 1, api.MaxRes-1), lease(2, 1, 1, 1)}, []api.Use{use(1, 2, api.MaxRes)}, api.OK)
	checkUses(t, "Mem MaxRes in each of two queues", []api.Lease{most, lease(2, 2, 0, api.MaxRes)}, []api.Use{use(1, 0, api.MaxRes), use(2, 0, api.MaxRes)}, api.OK)
	checkUses(t, "MaxRes and nothing", []api.Lease{most, lease(2, 1, 0, 0)}, []api.Use{use(1, 0, api.MaxRes)}, api.OK)
	for _, mem := range []int64{-1, api.MaxRes + 1, math.MinInt64, math.MaxInt64} {
		checkUses(t, "Mem outside", []api.Lease{lease(1, 1, 1, mem)}, nil, api.ErrArg)
		checkUses(t, "Mem outside, of one that is Stop", []api.Lease{lease(2, 1, 1, 1), stop(lease(1, 1, 1, mem))}, nil, api.ErrArg)
		checkUses(t, "Mem outside, behind", []api.Lease{lease(2, 1, 1, 1), lease(1, 2, 1, mem)}, nil, api.ErrArg)
	}
	checkUses(t, "a sum above MaxRes", []api.Lease{most, lease(2, 1, 0, 1)}, nil, api.ErrOver)
	checkUses(t, "a sum above MaxRes, one of it Stop", []api.Lease{most, stop(lease(2, 1, 0, 1))}, nil, api.ErrOver)
	checkUses(t, "a sum far above MaxRes", []api.Lease{most, most, most}, nil, api.ErrOver)
	checkUses(t, "a sum above MaxRes in the second queue", []api.Lease{lease(2, 2, 1, 1), most, lease(3, 1, 0, 1)}, nil, api.ErrOver)
}

// A lease that is wrong is told ahead of a sum that is too great, wherever it stands.
func TestUsesArgAheadOfOver(t *testing.T) {
	over := []api.Lease{lease(1, 1, 0, api.MaxRes), lease(2, 1, 0, 1)}
	for name, bad := range map[string]api.Lease{"Mem": lease(3, 2, 0, -1), "cores": lease(3, 2, 65, 0), "both": lease(3, 1, 65, api.MaxRes+1)} {
		checkUses(t, name+" behind a sum that is too great", append(over[:2:2], bad), nil, api.ErrArg)
		checkUses(t, name+" ahead of a sum that is too great", append([]api.Lease{bad}, over...), nil, api.ErrArg)
	}
}
