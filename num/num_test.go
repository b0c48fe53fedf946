package num_test

import (
	"math"
	"math/big"
	"math/rand"
	"slices"
	"testing"

	"furlong/api"
	"furlong/num"
)

const (
	most  = math.MaxInt64
	least = math.MinInt64
)

// edges are the numbers at which a sum, a product or a quotient changes its kind.
func edges() []int64 {
	return []int64{
		least, least + 1, least + 2, least / 2, least/2 - 1, -1 << 32, -1<<32 - 1, -1 << 31, -3037000500, -3037000499, -720720, -18, -7, -3, -2, -1,
		0, 1, 2, 3, 7, 12, 720720, 3037000499, 3037000500, 1 << 31, 1<<32 - 1, 1 << 32, 1 << 40, most / 2, most/2 + 1, most - 1, most,
	}
}

func few() []int64 {
	return []int64{least, least + 1, -1 << 32, -7, -2, -1, 0, 1, 2, 3, 1 << 32, 1 << 62, most - 1, most}
}

// numbers are of all lengths, so that products and sums fall on both sides of the bounds.
func numbers(r *rand.Rand) int64 {
	return int64(r.Uint64()) >> r.Intn(64)
}

// exact is what a call with that exact result has to answer.
func exact(x *big.Int) (int64, api.Errno) {
	if !x.IsInt64() {
		return 0, api.ErrOver
	}
	return x.Int64(), api.OK
}

func wide(x int64) *big.Int { return big.NewInt(x) }

func checkTwo(t *testing.T, name string, f func(a, b int64) (int64, api.Errno), want func(z, a, b *big.Int) *big.Int, a, b int64) {
	t.Helper()
	wanted, e := exact(want(new(big.Int), wide(a), wide(b)))
	for range 2 { // P2: the second time as the first time
		if got, err := f(a, b); got != wanted || err != e {
			t.Errorf("P1.1: %s(%d, %d) = %d, %d; want %d, %d", name, a, b, got, err, wanted, e)
		}
	}
}

func checkAddSubMul(t *testing.T, a, b int64) {
	t.Helper()
	checkTwo(t, "Add", num.Add, (*big.Int).Add, a, b)
	checkTwo(t, "Sub", num.Sub, (*big.Int).Sub, a, b)
	checkTwo(t, "Mul", num.Mul, (*big.Int).Mul, a, b)
}

func TestAddSubMulAreExact(t *testing.T) {
	for _, a := range edges() {
		for _, b := range edges() {
			checkAddSubMul(t, a, b)
		}
	}
	r := rand.New(rand.NewSource(1))
	for range 20000 {
		checkAddSubMul(t, numbers(r), numbers(r))
	}
}

func TestAddSubMulAtTheEnds(t *testing.T) {
	for _, c := range []struct {
		name string
		f    func(a, b int64) (int64, api.Errno)
		a, b int64
		want int64
		err  api.Errno
	}{
		{"Add", num.Add, 3, 4, 7, api.OK},
		{"Add", num.Add, most, 1, 0, api.ErrOver},
		{"Add", num.Add, most - 1, 1, most, api.OK},
		{"Add", num.Add, least, -1, 0, api.ErrOver},
		{"Add", num.Add, least + 1, -1, least, api.OK},
		{"Add", num.Add, least, least, 0, api.ErrOver},
		{"Add", num.Add, least, most, -1, api.OK},
		{"Sub", num.Sub, 3, 4, -1, api.OK},
		{"Sub", num.Sub, 0, least, 0, api.ErrOver},
		{"Sub", num.Sub, -1, least, most, api.OK},
		{"Sub", num.Sub, least, least, 0, api.OK},
		{"Sub", num.Sub, least, 1, 0, api.ErrOver},
		{"Sub", num.Sub, most, -1, 0, api.ErrOver},
		{"Sub", num.Sub, -2, most, 0, api.ErrOver},
		{"Sub", num.Sub, -1, most, least, api.OK},
		{"Mul", num.Mul, -3, 4, -12, api.OK},
		{"Mul", num.Mul, least, -1, 0, api.ErrOver},
		{"Mul", num.Mul, -1, least, 0, api.ErrOver},
		{"Mul", num.Mul, least, 1, least, api.OK},
		{"Mul", num.Mul, 1 << 62, 2, 0, api.ErrOver},
		{"Mul", num.Mul, 1 << 62, -2, least, api.OK},
		{"Mul", num.Mul, 1 << 32, 1 << 32, 0, api.ErrOver},
		{"Mul", num.Mul, least, 0, 0, api.OK},
	} {
		if got, err := c.f(c.a, c.b); got != c.want || err != c.err {
			t.Errorf("P1.1: %s(%d, %d) = %d, %d; want %d, %d", c.name, c.a, c.b, got, err, c.want, c.err)
		}
	}
}

func checkSum(t *testing.T, l []int64) {
	t.Helper()
	x := new(big.Int)
	for _, y := range l {
		x.Add(x, wide(y))
	}
	want, e := exact(x)
	given := slices.Clone(l)
	for range 2 {
		if got, err := num.Sum(given); got != want || err != e {
			t.Errorf("P1.1: Sum(%v) = %d, %d; want %d, %d", l, got, err, want, e)
		}
	}
	if !slices.Equal(given, l) {
		t.Errorf("Sum changed its list %v to %v", l, given)
	}
}

func TestSumIsExact(t *testing.T) {
	for _, a := range edges() {
		checkSum(t, []int64{a})
		for _, b := range edges() {
			for _, c := range edges() {
				checkSum(t, []int64{a, b, c})
			}
		}
	}
	r := rand.New(rand.NewSource(2))
	for range 5000 {
		l := make([]int64, r.Intn(9))
		for i := range l {
			l[i] = numbers(r)
		}
		checkSum(t, l)
	}
}

func TestSumAtTheEnds(t *testing.T) {
	for _, c := range []struct {
		l    []int64
		want int64
		err  api.Errno
	}{
		{nil, 0, api.OK},
		{[]int64{}, 0, api.OK},
		{[]int64{5, -7, 3}, 1, api.OK},
		{[]int64{most, 1, -1}, most, api.OK},
		{[]int64{least, -1, 1}, least, api.OK},
		{[]int64{most, 1}, 0, api.ErrOver},
		{[]int64{least, -1}, 0, api.ErrOver},
		{[]int64{most, most, most, least, least, least}, -3, api.OK},
		{[]int64{least, least}, 0, api.ErrOver},
	} {
		if got, err := num.Sum(c.l); got != c.want || err != c.err {
			t.Errorf("P1.1: Sum(%v) = %d, %d; want %d, %d", c.l, got, err, c.want, c.err)
		}
	}
}

// TestSumOfLongLists: each half of the list alone leaves 64 bits without a sign, and is a multiple of 2^64.
func TestSumOfLongLists(t *testing.T) {
	up := slices.Repeat([]int64{1 << 62}, 1000)
	down := slices.Repeat([]int64{least}, 500)
	checkSum(t, up)
	checkSum(t, down)
	checkSum(t, slices.Concat(up, down))
	checkSum(t, slices.Concat(down, up))
	checkSum(t, slices.Concat(up, down, []int64{most}))
	checkSum(t, slices.Concat(up, down, []int64{most, 1}))
	checkSum(t, slices.Concat(down, up, []int64{least}))
	checkSum(t, slices.Concat(down, up, []int64{least, -1}))
	checkSum(t, slices.Concat(up, down[2:]))
	checkSum(t, slices.Concat(up[4:], down))
}

func checkCmp(t *testing.T, a, b, c, d int64) {
	t.Helper()
	want, e := 0, api.ErrArg
	if b >= 1 && d >= 1 {
		x, y := new(big.Int).Mul(wide(a), wide(d)), new(big.Int).Mul(wide(c), wide(b))
		want, e = x.Cmp(y), api.OK
	}
	for range 2 {
		if got, err := num.Cmp(a, b, c, d); got != want || err != e {
			t.Errorf("P1.1: Cmp(%d, %d, %d, %d) = %d, %d; want %d, %d", a, b, c, d, got, err, want, e)
		}
	}
}

func TestCmpIsExact(t *testing.T) {
	for _, a := range few() {
		for _, b := range few() {
			for _, c := range few() {
				for _, d := range few() {
					checkCmp(t, a, b, c, d)
				}
			}
		}
	}
	r := rand.New(rand.NewSource(3))
	for range 20000 {
		a, b, c, d := numbers(r), numbers(r), numbers(r), numbers(r)
		checkCmp(t, a, b, c, d)
		checkCmp(t, a, b, a, b)
	}
}

func TestCmpAtTheEnds(t *testing.T) {
	for _, c := range []struct {
		a, b, c, d int64
		want       int
		err        api.Errno
	}{
		{1, 3, 2, 6, 0, api.OK},
		{1, 3, 1, 2, -1, api.OK},
		{-1, 2, 0, 5, -1, api.OK},
		{0, 5, -1, 2, 1, api.OK},
		{0, 5, 0, 7, 0, api.OK},
		{-1, 2, -1, 3, -1, api.OK},
		{-2, 6, -1, 3, 0, api.OK},
		{-1, 3, 1, 3, -1, api.OK},
		{most, most, most - 1, most, 1, api.OK},
		{most - 1, most, most - 2, most - 1, 1, api.OK},
		{least, most, -1, 1, -1, api.OK},
		{least, 1, least, 1, 0, api.OK},
		{least, 1, most, 1, -1, api.OK},
		{1, 0, 1, 1, 0, api.ErrArg},
		{1, 1, 1, 0, 0, api.ErrArg},
		{1, -1, 2, 1, 0, api.ErrArg},
		{1, 1, 2, -1, 0, api.ErrArg},
		{1, least, 2, least, 0, api.ErrArg},
	} {
		if got, err := num.Cmp(c.a, c.b, c.c, c.d); got != c.want || err != c.err {
			t.Errorf("P1.1: Cmp(%d, %d, %d, %d) = %d, %d; want %d, %d", c.a, c.b, c.c, c.d, got, err, c.want, c.err)
		}
	}
}

func checkMulDiv(t *testing.T, a, b, c int64) {
	t.Helper()
	want, e := int64(0), api.ErrArg
	if c >= 1 {
		x := new(big.Int).Mul(wide(a), wide(b))
		want, e = exact(x.Div(x, wide(c))) // Euclid's division, which rounds down where the divisor is above nought
	}
	for range 2 {
		if got, err := num.MulDiv(a, b, c); got != want || err != e {
			t.Errorf("P1.1: MulDiv(%d, %d, %d) = %d, %d; want %d, %d", a, b, c, got, err, want, e)
		}
	}
}

func TestMulDivIsExact(t *testing.T) {
	for _, a := range edges() {
		for _, b := range edges() {
			for _, c := range edges() {
				checkMulDiv(t, a, b, c)
			}
		}
	}
	r := rand.New(rand.NewSource(4))
	for range 50000 {
		checkMulDiv(t, numbers(r), numbers(r), numbers(r))
	}
}

func TestMulDivAtTheEnds(t *testing.T) {
	for _, c := range []struct {
		a, b, c, want int64
		err           api.Errno
	}{
		{7, 7, 2, 24, api.OK},
		{-7, 1, 2, -4, api.OK},
		{7, -1, 2, -4, api.OK},
		{-7, -1, 2, 3, api.OK},
		{-8, 1, 2, -4, api.OK},
		{-1, 1, most, -1, api.OK},
		{1, 1, most, 0, api.OK},
		{0, -5, 3, 0, api.OK},
		{most, most, most, most, api.OK},
		{least, most, most, least, api.OK},
		{least, least, most, 0, api.ErrOver},
		{least, 1, 1, least, api.OK},
		{least, -1, 1, 0, api.ErrOver},
		{most, 2, 1, 0, api.ErrOver},
		{most, 3, 2, 0, api.ErrOver},
		{least, 3, 3, least, api.OK},
		{1 << 62, 4, 2, 0, api.ErrOver},
		{-1 << 62, 4, 2, least, api.OK},
		{-274177, 67280421310721, 2, 0, api.ErrOver}, // -2^63 - 1/2: only cut off would it fit
		{-(1<<33 - 1), 1<<33 + 1, 4, 0, api.ErrOver}, // -2^64 + 1/4: rounded down in 64 bits it would be 0
		{1<<33 - 1, 1<<33 + 1, 8, most, api.OK},      // 2^63 - 1/8
		{-(1<<33 - 1), 1<<33 + 1, 8, least, api.OK},  // -2^63 + 1/8
		{1, 1, 0, 0, api.ErrArg},
		{1, 1, -1, 0, api.ErrArg},
		{most, most, least, 0, api.ErrArg},
		{0, 0, 0, 0, api.ErrArg},
	} {
		if got, err := num.MulDiv(c.a, c.b, c.c); got != c.want || err != c.err {
			t.Errorf("P1.1: MulDiv(%d, %d, %d) = %d, %d; want %d, %d", c.a, c.b, c.c, got, err, c.want, c.err)
		}
	}
}

func TestGcdIsTheGreatest(t *testing.T) {
	for _, a := range edges() {
		for _, b := range edges() {
			checkGcd(t, a, b)
		}
	}
	r := rand.New(rand.NewSource(5))
	for range 20000 {
		checkGcd(t, numbers(r), numbers(r))
	}
	for a := int64(-30); a <= 30; a++ {
		for b := int64(-30); b <= 30; b++ {
			if got := num.Gcd(a, b); got != bySearch(a, b) {
				t.Errorf("P1.2: Gcd(%d, %d) = %d; want %d", a, b, got, bySearch(a, b))
			}
		}
	}
}

func checkGcd(t *testing.T, a, b int64) {
	t.Helper()
	x, y := wide(a), wide(b)
	g := new(big.Int).GCD(nil, nil, x.Abs(x), y.Abs(y))
	want, _ := exact(g)
	for range 2 {
		if got := num.Gcd(a, b); got != want {
			t.Errorf("P1.2: Gcd(%d, %d) = %d; want %d", a, b, got, want)
		}
	}
}

// bySearch goes down from above both numbers to the first one that divides them.
func bySearch(a, b int64) int64 {
	for d := int64(30); d > 0 && (a != 0 || b != 0); d-- {
		if a%d == 0 && b%d == 0 {
			return d
		}
	}
	return 0
}

func TestGcdAtTheEnds(t *testing.T) {
	for _, c := range []struct{ a, b, want int64 }{
		{12, -18, 6},
		{-12, -18, 6},
		{0, 0, 0},
		{0, -5, 5},
		{5, 0, 5},
		{7, 9, 1},
		{least, 0, 0},
		{0, least, 0},
		{least, least, 0},
		{least, most, 1},
		{least, 1 << 62, 1 << 62},
		{least, -6, 2},
		{most, 0, most},
		{most, -most, most},
	} {
		if got := num.Gcd(c.a, c.b); got != c.want {
			t.Errorf("P1.2: Gcd(%d, %d) = %d; want %d", c.a, c.b, got, c.want)
		}
	}
}
