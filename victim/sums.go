package victim

import (
	"maps"
	"slices"

	"furlong/api"
	"furlong/vec"
)

// sums is what each queue that has leases uses by them, by its Id.
type sums map[int]api.Vec

// add asks about all leases first, for a sum that is too great is told only where each of them is right.
func add(leases []api.Lease) (sums, api.Errno) {
	for _, x := range leases {
		if len(x.Cores) > api.MaxCores || vec.Check(amount(x)) != api.OK {
			return nil, api.ErrArg
		}
	}
	used := sums{}
	for _, x := range leases {
		sum, err := vec.Add(used[x.Queue], amount(x))
		if err != api.OK {
			return nil, err
		}
		used[x.Queue] = sum
	}
	return used, api.OK
}

func amount(x api.Lease) api.Vec {
	return api.Vec{CPU: int64(len(x.Cores)), Mem: x.Mem}
}

func (s sums) list() []api.Use {
	var l []api.Use
	for _, id := range slices.Sorted(maps.Keys(s)) {
		l = append(l, api.Use{Queue: id, Vec: s[id]})
	}
	return l
}

// lasting: the leases that aren't on their way out already.
func lasting(leases []api.Lease) []api.Lease {
	var l []api.Lease
	for _, x := range leases {
		if !x.Stop {
			l = append(l, x)
		}
	}
	return l
}
