package vec_test

import (
	"math"
	"math/big"
	"math/rand"
	"testing"

	"furlong/api"
	"furlong/vec"
)

func v(cpu, mem int64) api.Vec { return api.Vec{CPU: cpu, Mem: mem} }

func edges() []int64 {
	return []int64{math.MinInt64, -1, 0, 1, 2, 3, api.MaxRes / 2, api.MaxRes/2 + 1, api.MaxRes - 1, api.MaxRes, api.MaxRes + 1, math.MaxInt64}
}

func vectors(l []int64) []api.Vec {
	var all []api.Vec
	for _, x := range l {
		for _, y := range l {
			all = append(all, v(x, y))
		}
	}
	return all
}

// wrong are vectors with a part outside 0 to MaxRes.
func wrong() []api.Vec {
	return []api.Vec{
		v(-1, 0), v(0, -1), v(api.MaxRes+1, 0), v(0, api.MaxRes+1),
		v(math.MinInt64, 5), v(5, math.MinInt64), v(math.MaxInt64, 5), v(5, math.MaxInt64),
	}
}

func part(x int64) bool { return 0 <= x && x <= api.MaxRes }

func isAmount(a api.Vec) bool { return part(a.CPU) && part(a.Mem) }

// amount is of any size, so that fractions of all kinds come about.
func amount(r *rand.Rand) api.Vec {
	one := func() int64 { return r.Int63n(api.MaxRes+1) >> r.Intn(42) }
	return v(one(), one())
}

func TestCheck(t *testing.T) {
	for _, a := range vectors(edges()) {
		want := api.ErrArg
		if isAmount(a) {
			want = api.OK
		}
		if got := vec.Check(a); got != want {
			t.Errorf("errors: Check(%v) = %d; want %d", a, got, want)
		}
	}
}

func TestAddAndSubArePartByPart(t *testing.T) {
	for _, a := range vectors(edges()) {
		for _, b := range vectors(edges()) {
			checkOne(t, "Add", vec.Add, a, b, func(x, y int64) int64 { return x + y })
			checkOne(t, "Sub", vec.Sub, a, b, func(x, y int64) int64 { return x - y })
		}
	}
}

func checkOne(t *testing.T, name string, f func(a, b api.Vec) (api.Vec, api.Errno), a, b api.Vec, op func(x, y int64) int64) {
	t.Helper()
	want, e := v(op(a.CPU, b.CPU), op(a.Mem, b.Mem)), api.OK
	if !isAmount(a) || !isAmount(b) {
		want, e = api.Vec{}, api.ErrArg
	} else if !isAmount(want) {
		want, e = api.Vec{}, api.ErrOver
	}
	for range 2 { // P2: the second time as the first time
		if got, err := f(a, b); got != want || err != e {
			t.Errorf("P2.1: %s(%v, %v) = %v, %d; want %v, %d", name, a, b, got, err, want, e)
		}
	}
}

func TestAddAndSubAtTheEnds(t *testing.T) {
	for _, c := range []struct {
		name       string
		f          func(a, b api.Vec) (api.Vec, api.Errno)
		a, b, want api.Vec
		err        api.Errno
	}{
		{"Add", vec.Add, v(1, 2), v(3, 5), v(4, 7), api.OK},
		{"Add", vec.Add, v(api.MaxRes, 0), v(0, api.MaxRes), v(api.MaxRes, api.MaxRes), api.OK},
		{"Add", vec.Add, v(api.MaxRes, 0), v(1, 0), api.Vec{}, api.ErrOver},
		{"Add", vec.Add, v(0, 1), v(0, api.MaxRes), api.Vec{}, api.ErrOver},
		{"Add", vec.Add, v(-1, 0), v(1, 0), api.Vec{}, api.ErrArg},
		{"Add", vec.Add, v(api.MaxRes, 0), v(1, -1), api.Vec{}, api.ErrArg},
		{"Sub", vec.Sub, v(4, 7), v(3, 5), v(1, 2), api.OK},
		{"Sub", vec.Sub, v(4, 7), v(4, 7), v(0, 0), api.OK},
		{"Sub", vec.Sub, v(1, 1), v(2, 0), api.Vec{}, api.ErrOver},
		{"Sub", vec.Sub, v(1, 1), v(0, 2), api.Vec{}, api.ErrOver},
		{"Sub", vec.Sub, v(0, 0), v(0, -1), api.Vec{}, api.ErrArg},
		{"Sub", vec.Sub, v(api.MaxRes+1, 0), v(1, 0), api.Vec{}, api.ErrArg},
	} {
		if got, err := c.f(c.a, c.b); got != c.want || err != c.err {
			t.Errorf("P2.1: %s(%v, %v) = %v, %d; want %v, %d", c.name, c.a, c.b, got, err, c.want, c.err)
		}
	}
}

func TestFitsAnyNumbers(t *testing.T) {
	for _, a := range vectors(edges()) {
		for _, b := range vectors(edges()) {
			want := a.CPU <= b.CPU && a.Mem <= b.Mem
			if got := vec.Fits(a, b); got != want {
				t.Errorf("P2.1: Fits(%v, %v) = %t", a, b, got)
			}
		}
	}
}

// fraction is a share as the chapter tells it; under 0 stands for what is greater than all others.
type fraction struct{ over, under int64 }

func ratio(use, total int64) fraction {
	if total != 0 {
		return fraction{use, total}
	}
	if use == 0 {
		return fraction{0, 1}
	}
	return fraction{1, 0}
}

// order compares fractions that are divided by weights, in numbers without bounds.
func order(f fraction, wf int64, g fraction, wg int64) int {
	switch {
	case f.under == 0 && g.under == 0:
		return 0
	case f.under == 0:
		return 1
	case g.under == 0:
		return -1
	}
	x, y := big.NewRat(f.over, f.under), big.NewRat(g.over, g.under)
	x.Quo(x, big.NewRat(wf, 1))
	y.Quo(y, big.NewRat(wg, 1))
	return x.Cmp(y)
}

func greater(use, total api.Vec) fraction {
	cpu, mem := ratio(use.CPU, total.CPU), ratio(use.Mem, total.Mem)
	if order(mem, 1, cpu, 1) > 0 {
		return mem
	}
	return cpu
}

func checkShare(t *testing.T, use, total api.Vec) {
	t.Helper()
	want := greater(use, total)
	for range 2 {
		if n, d, e := vec.Share(use, total); n != want.over || d != want.under || e != api.OK {
			t.Errorf("P2.2: Share(%v, %v) = %d, %d, %d; want %v", use, total, n, d, e, want)
		}
	}
}

func amounts() []api.Vec {
	return vectors([]int64{0, 1, 2, 3, 4, 6, api.MaxRes - 1, api.MaxRes})
}

func TestShareIsTheGreater(t *testing.T) {
	for _, use := range amounts() {
		for _, total := range amounts() {
			checkShare(t, use, total)
		}
	}
	r := rand.New(rand.NewSource(1))
	for range 20000 {
		checkShare(t, amount(r), amount(r))
	}
}

func TestShareAsItStands(t *testing.T) {
	for _, c := range []struct {
		use, total api.Vec
		n, d       int64
	}{
		{v(1, 4), v(4, 8), 4, 8},
		{v(2, 4), v(4, 8), 2, 4},
		{v(4, 2), v(8, 4), 4, 8},
		{v(3, 1), v(6, 8), 3, 6},
		{v(9, 0), v(3, 8), 9, 3},
		{v(1, 0), v(0, 8), 1, 0},
		{v(5, 9), v(0, 8), 1, 0},
		{v(5, 9), v(8, 0), 1, 0},
		{v(5, 9), v(0, 0), 1, 0},
		{v(0, 9), v(0, 0), 1, 0},
		{v(0, 0), v(0, 0), 0, 1},
		{v(0, 0), v(0, 8), 0, 1},
		{v(0, 0), v(8, 0), 0, 8},
		{v(0, 0), v(7, 8), 0, 7},
		{v(0, 3), v(0, 8), 3, 8},
		{v(3, 0), v(8, 0), 3, 8},
		{v(api.MaxRes, api.MaxRes-1), v(api.MaxRes, api.MaxRes), api.MaxRes, api.MaxRes},
		{v(api.MaxRes-1, api.MaxRes-2), v(api.MaxRes, api.MaxRes-1), api.MaxRes - 1, api.MaxRes},
		{v(api.MaxRes, 1), v(1, api.MaxRes), api.MaxRes, 1},
	} {
		if n, d, e := vec.Share(c.use, c.total); n != c.n || d != c.d || e != api.OK {
			t.Errorf("P2.2: Share(%v, %v) = %d, %d, %d; want %d, %d", c.use, c.total, n, d, e, c.n, c.d)
		}
	}
}

func TestShareOfWrongAmounts(t *testing.T) {
	for _, w := range wrong() {
		for _, c := range [][2]api.Vec{{w, v(4, 8)}, {v(1, 1), w}, {w, w}, {w, v(0, 0)}} {
			if n, d, e := vec.Share(c[0], c[1]); n != 0 || d != 0 || e != api.ErrArg {
				t.Errorf("errors: Share(%v, %v) = %d, %d, %d; want ErrArg", c[0], c[1], n, d, e)
			}
		}
	}
}

func checkLess(t *testing.T, a api.Vec, wa int64, b api.Vec, wb int64, total api.Vec) {
	t.Helper()
	want := order(greater(a, total), wa, greater(b, total), wb)
	for range 2 {
		if got, e := vec.Less(a, wa, b, wb, total); got != want || e != api.OK {
			t.Errorf("P2.3: Less(%v, %d, %v, %d, %v) = %d, %d; want %d", a, wa, b, wb, total, got, e, want)
		}
	}
}

func TestLessIsWeighted(t *testing.T) {
	few := vectors([]int64{0, 1, 2, api.MaxRes})
	weights := []int64{1, 2, 3, api.MaxWeight - 1, api.MaxWeight}
	for _, a := range few {
		for _, b := range few {
			for _, total := range few {
				for _, wa := range weights {
					for _, wb := range weights {
						checkLess(t, a, wa, b, wb, total)
					}
				}
			}
		}
	}
}

func TestLessOfManyAmounts(t *testing.T) {
	r := rand.New(rand.NewSource(2))
	weight := func() int64 { return 1 + r.Int63n(api.MaxWeight)>>r.Intn(21) }
	for range 20000 {
		a, wa, total := amount(r), weight(), amount(r)
		checkLess(t, a, wa, amount(r), weight(), total)
		checkLess(t, a, wa, a, wa, total)
	}
}

func TestLessAtTheEnds(t *testing.T) {
	for _, c := range []struct {
		a     api.Vec
		wa    int64
		b     api.Vec
		wb    int64
		total api.Vec
		want  int
	}{
		{v(1, 0), 1, v(2, 0), 2, v(4, 8), 0},
		{v(1, 0), 1, v(0, 3), 1, v(4, 8), -1},
		{v(0, 3), 1, v(1, 0), 1, v(4, 8), 1},
		{v(2, 0), 1, v(3, 0), 2, v(10, 10), 1},
		{v(1, 0), 1, v(2, 0), 2, v(0, 1), 0},
		{v(1, 0), api.MaxWeight, v(2, 0), 1, v(0, 1), 0},
		{v(1, 0), api.MaxWeight, v(0, 1), 1, v(0, 1), 1},
		{v(0, 1), 1, v(1, 0), api.MaxWeight, v(0, 1), -1},
		{v(0, 0), 1, v(0, 0), api.MaxWeight, v(0, 0), 0},
		{v(0, 0), 1, v(1, 0), api.MaxWeight, v(api.MaxRes, 0), -1},
		{v(1, 1), 1, v(1, 1), api.MaxWeight, v(api.MaxRes, api.MaxRes), 1},
		{v(api.MaxRes, 0), api.MaxWeight, v(1, 0), 1, v(api.MaxRes, 1), 1},
		{v(api.MaxWeight, 0), api.MaxWeight, v(1, 0), 1, v(api.MaxRes, 1), 0},
		{v(api.MaxRes-1, 0), api.MaxWeight, v(api.MaxRes, 0), api.MaxWeight, v(api.MaxRes, 1), -1},
	} {
		if got, e := vec.Less(c.a, c.wa, c.b, c.wb, c.total); got != c.want || e != api.OK {
			t.Errorf("P2.3: Less(%v, %d, %v, %d, %v) = %d, %d; want %d", c.a, c.wa, c.b, c.wb, c.total, got, e, c.want)
		}
	}
}

func TestLessOfWrongInputs(t *testing.T) {
	good := v(1, 2)
	refuse := func(a api.Vec, wa int64, b api.Vec, wb int64, total api.Vec) {
		t.Helper()
		if got, e := vec.Less(a, wa, b, wb, total); got != 0 || e != api.ErrArg {
			t.Errorf("errors: Less(%v, %d, %v, %d, %v) = %d, %d; want ErrArg", a, wa, b, wb, total, got, e)
		}
	}
	for _, w := range []int64{math.MinInt64, -1, 0, api.MaxWeight + 1, math.MaxInt64} {
		refuse(v(2, 2), w, good, 1, v(4, 8))
		refuse(v(2, 2), 1, good, w, v(4, 8))
		refuse(v(2, 2), w, good, w, v(4, 8))
	}
	for _, w := range wrong() {
		refuse(w, 1, good, 1, v(4, 8))
		refuse(good, 1, w, 1, v(4, 8))
		refuse(good, 1, good, 1, w)
		refuse(w, 0, w, 0, w)
	}
}
