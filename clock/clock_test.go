package clock_test

import (
	"math"
	"math/big"
	"math/rand"
	"slices"
	"testing"

	"furlong/api"
	"furlong/clock"
)

func lengths() []int64 {
	return []int64{math.MinInt64, -1, 0, 1, 2, 3, 10, 40, 100, 999, 1000, 1001, api.MaxRes / 2, api.MaxRes - 1, api.MaxRes, api.MaxRes + 1, math.MaxInt64}
}

func drifts() []int {
	return []int{math.MinInt, -1, 0, 1, 2, 50, 333, 500, 998, 999, 1000, 1001, math.MaxInt}
}

func isLength(x int64) bool { return 0 <= x && x <= api.MaxRes }

func isDrift(d int) bool { return 0 <= d && d <= 999 }

// product is one without bounds.
func product(a, b int64) *big.Int {
	return new(big.Int).Mul(big.NewInt(a), big.NewInt(b))
}

func keeps(long, short int64, drift int) bool {
	return product(short, 1000+int64(drift)).Cmp(product(long, 1000-int64(drift))) <= 0
}

func checkLen(t *testing.T, long int64, drift int) {
	t.Helper()
	short, e := clock.Len(long, drift)
	if again, e2 := clock.Len(long, drift); again != short || e2 != e {
		t.Errorf("P2: Len(%d, %d) = %d, then %d", long, drift, short, again)
	}
	if long < 1 || !isLength(long) || !isDrift(drift) {
		if short != 0 || e != api.ErrArg {
			t.Errorf("errors: Len(%d, %d) = %d, %d; want ErrArg", long, drift, short, e)
		}
		return
	}
	if e != api.OK || short < 0 || !keeps(long, short, drift) || keeps(long, short+1, drift) {
		t.Errorf("P4.1: Len(%d, %d) = %d, %d", long, drift, short, e)
	}
	if !clock.Safe(long, short, drift) || clock.Safe(long, short+1, drift) {
		t.Errorf("P4.1: Safe at Len(%d, %d)", long, drift)
	}
}

func TestLenIsTheGreatestSafeLength(t *testing.T) {
	for _, long := range lengths() {
		for _, drift := range drifts() {
			checkLen(t, long, drift)
		}
	}
	r := rand.New(rand.NewSource(1))
	for range 20000 {
		checkLen(t, 1+r.Int63n(api.MaxRes)>>r.Intn(40), r.Intn(1000))
	}
}

func TestLenAsTheChapterTells(t *testing.T) {
	for _, c := range []struct {
		long  int64
		drift int
		want  int64
		err   api.Errno
	}{
		{40, 50, 36, api.OK},
		{10, 999, 0, api.OK},
		{1998, 999, 0, api.OK},
		{1999, 999, 1, api.OK},
		{1, 0, 1, api.OK},
		{1, 1, 0, api.OK},
		{1, 999, 0, api.OK},
		{api.MaxRes, 0, api.MaxRes, api.OK},
		{api.MaxRes, 999, api.MaxRes / 1999, api.OK},
		{0, 0, 0, api.ErrArg},
		{-1, 0, 0, api.ErrArg},
		{api.MaxRes + 1, 0, 0, api.ErrArg},
		{40, -1, 0, api.ErrArg},
		{40, 1000, 0, api.ErrArg},
	} {
		if got, e := clock.Len(c.long, c.drift); got != c.want || e != c.err {
			t.Errorf("P4.1: Len(%d, %d) = %d, %d; want %d, %d", c.long, c.drift, got, e, c.want, c.err)
		}
	}
}

func TestSafeOfAnyNumbers(t *testing.T) {
	for _, long := range lengths() {
		for _, short := range lengths() {
			for _, drift := range drifts() {
				want := isLength(long) && isLength(short) && isDrift(drift) && keeps(long, short, drift)
				if got := clock.Safe(long, short, drift); got != want {
					t.Errorf("P4.1: Safe(%d, %d, %d) = %t", long, short, drift, got)
				}
			}
		}
	}
	if !clock.Safe(0, 0, 999) || !clock.Safe(40, 36, 50) || clock.Safe(40, 37, 50) || !clock.Safe(21, 19, 50) || clock.Safe(20, 19, 50) {
		t.Error("P4.1: Safe")
	}
}

func goesWithin(dt, inc int64, drift int) bool {
	if !isLength(dt) || !isLength(inc) || !isDrift(drift) {
		return false
	}
	gone := product(1000, inc)
	return gone.Cmp(product(1000-int64(drift), dt)) >= 0 && gone.Cmp(product(1000+int64(drift), dt)) <= 0
}

func checkWithin(t *testing.T, dt, inc int64, drift int) {
	t.Helper()
	want := goesWithin(dt, inc, drift)
	if got := clock.Within(dt, inc, drift); got != want {
		t.Errorf("P4.2: Within(%d, %d, %d) = %t", dt, inc, drift, got)
	}
	if got := clock.Steady([]int64{dt}, []int64{inc}, drift); got != want {
		t.Errorf("P4.2: Steady([%d], [%d], %d) = %t", dt, inc, drift, got)
	}
}

func TestWithinOfAnyNumbers(t *testing.T) {
	for _, dt := range lengths() {
		for _, inc := range lengths() {
			for _, drift := range drifts() {
				checkWithin(t, dt, inc, drift)
			}
		}
	}
	r := rand.New(rand.NewSource(2))
	for range 20000 { // close to both ends
		dt, drift := r.Int63n(api.MaxRes)>>r.Intn(40), r.Intn(1000)
		for d := int64(-1); d <= 1; d++ {
			checkWithin(t, dt, dt*(1000-int64(drift))/1000+d, drift)
			checkWithin(t, dt, dt*(1000+int64(drift))/1000+d, drift)
		}
	}
}

func TestWithinAsTheChapterTells(t *testing.T) {
	for _, c := range []struct {
		dt, inc int64
		drift   int
		want    bool
	}{
		{100, 95, 50, true},
		{100, 94, 50, false},
		{100, 105, 50, true},
		{100, 106, 50, false},
		{0, 0, 0, true},
		{0, 0, 999, true},
		{0, 1, 999, false},
		{1, 0, 50, false},
		{1, 0, 999, false},
		{1, 1, 0, true},
		{1, 1, -1, false},
		{1, 1, 1000, false},
		{7, 7, 0, true},
		{7, 8, 0, false},
		{7, 6, 0, false},
		{api.MaxRes, api.MaxRes, 0, true},
		{api.MaxRes + 1, api.MaxRes + 1, 0, false},
		{-1, -1, 0, false},
	} {
		if got := clock.Within(c.dt, c.inc, c.drift); got != c.want {
			t.Errorf("P4.2: Within(%d, %d, %d) = %t", c.dt, c.inc, c.drift, got)
		}
	}
}

func TestSteadyAsksAboutEach(t *testing.T) {
	for _, c := range []struct {
		dts, incs []int64
		drift     int
		want      bool
	}{
		{nil, nil, 50, true},
		{nil, []int64{}, 0, true},
		{[]int64{100, 0}, []int64{105, 0}, 50, true},
		{[]int64{100}, nil, 50, false},
		{nil, []int64{0}, 50, false},
		{[]int64{100, 100}, []int64{100}, 50, false},
		{[]int64{100}, []int64{100, 100}, 50, false},
		{[]int64{100, 100, 100}, []int64{94, 100, 100}, 50, false},
		{[]int64{100, 100, 100}, []int64{100, 94, 100}, 50, false},
		{[]int64{100, 100, 100}, []int64{100, 100, 106}, 50, false},
		{[]int64{100, 100}, []int64{90, 110}, 50, false}, // right as a whole, not step by step
		{[]int64{1, 1}, []int64{1, 1}, 1000, false},
		{[]int64{1, 1}, []int64{1, 1}, -1, false},
		{[]int64{1, -1}, []int64{1, -1}, 50, false},
		{[]int64{api.MaxRes, api.MaxRes}, []int64{api.MaxRes, api.MaxRes}, 0, true},
	} {
		dts, incs := slices.Clone(c.dts), slices.Clone(c.incs)
		if got := clock.Steady(dts, incs, c.drift); got != c.want {
			t.Errorf("P4.2: Steady(%v, %v, %d) = %t", c.dts, c.incs, c.drift, got)
		}
		if !slices.Equal(dts, c.dts) || !slices.Equal(incs, c.incs) {
			t.Errorf("P4.2: Steady has changed %v, %v", c.dts, c.incs)
		}
	}
}

// step is how far a clock may go while dt passes: its slowest, its fastest.
func step(dt int64, drift int) (int64, int64) {
	slowest, fastest := dt*(1000-int64(drift))/1000, dt*(1000+int64(drift))/1000
	if slowest*1000 < dt*(1000-int64(drift)) {
		slowest++
	}
	return slowest, fastest
}

// TestALeaseIsUsedInsideItsLength: of clocks that Steady lets pass, the agent's has not gone further than Len while the state's has passed long.
func TestALeaseIsUsedInsideItsLength(t *testing.T) {
	r := rand.New(rand.NewSource(4))
	runs := 0
	for range 4000 {
		drift, long := r.Intn(1000), 1+r.Int63n(api.MaxRes)>>r.Intn(40)
		short, _ := clock.Len(long, drift)
		var dts, agents, states []int64
		for range 1 + r.Intn(20) {
			dt := r.Int63n(long/4+1) + int64(r.Intn(3))
			slowest, fastest := step(dt, drift)
			dts, agents, states = append(dts, dt), append(agents, slowest), append(states, fastest)
			if r.Intn(3) == 0 {
				agents[len(agents)-1] += r.Int63n(fastest - slowest + 1)
			}
		}
		if !clock.Steady(dts, agents, drift) || !clock.Steady(dts, states, drift) {
			t.Fatalf("P4.2: Steady refuses %v, %v or %v with the drift %d", dts, agents, states, drift)
		}
		for from := range dts {
			var agent, state int64
			for i := from; i < len(dts); i++ {
				agent, state = agent+agents[i], state+states[i]
				if agent > short {
					break
				}
				runs++
				if state > long {
					t.Fatalf("P4.3: with the drift %d the agent's clock has gone on by %d, at most %d, and the state's by %d, above %d", drift, agent, short, state, long)
				}
			}
		}
	}
	if runs < 1000 {
		t.Errorf("only %d runs", runs)
	}
}

// TestALongerUseWouldNotBeSafe: with one more than Len, clocks at both ends of the drift pass long while the lease is in use.
func TestALongerUseWouldNotBeSafe(t *testing.T) {
	for _, c := range []struct {
		long  int64
		drift int
	}{{40, 50}, {10, 999}, {1, 999}, {1000, 1}, {api.MaxRes / 2048, 500}} {
		short, _ := clock.Len(c.long, c.drift)
		slow, fast := 1000-int64(c.drift), 1000+int64(c.drift)
		// In units of slow the true time is whole: the agent's clock goes on by 1, the state's by fast / slow.
		if !clock.Within(1000, slow, c.drift) || !clock.Within(1000, fast, c.drift) {
			t.Fatalf("P4.2: Within refuses the ends of the drift %d", c.drift)
		}
		if product(short+1, fast).Cmp(product(c.long, slow)) <= 0 {
			t.Errorf("P4.1: Len(%d, %d) = %d, and one more is safe still", c.long, c.drift, short)
		}
		if product(short, fast).Cmp(product(c.long, slow)) > 0 {
			t.Errorf("P4.3: Len(%d, %d) = %d: not safe", c.long, c.drift, short)
		}
	}
}
