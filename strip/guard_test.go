package strip_test

import (
	"bytes"
	"math/rand"
	"slices"
	"testing"

	"furlong/api"
	"furlong/strip"
)

const prime = 65521

// weights are reckoned one addition after the other, each modulo the prime.
func weights(p []byte) (int, int) {
	first, second := 0, 0
	for i, x := range p {
		first = (first + int(x)) % prime
		second = (second + int(x)*(i+1)%prime) % prime
	}
	return first, second
}

func guarded(p []byte, first, second int) []byte {
	return append(slices.Clone(p), byte(first>>8), byte(first), byte(second>>8), byte(second))
}

func some(n int, seed int64) []byte {
	p := make([]byte, n)
	rand.New(rand.NewSource(seed)).Read(p)
	return p
}

func TestGuardPutsTheWeightsBehind(t *testing.T) {
	all := [][]byte{nil, {}, {0}, {255}, {1, 2}, bytes.Repeat([]byte{255}, 257), bytes.Repeat([]byte{255}, 60000), make([]byte, 60000)}
	for _, n := range []int{1, 2, 3, 100, 256, 65, 1000, 59999, 60000} {
		all = append(all, some(n, int64(n)))
	}
	for _, p := range all {
		p = append(make([]byte, 0, len(p)+8), p...)
		before := slices.Clone(p[:cap(p)])
		first, second := weights(p)
		got, e := strip.Guard(p)
		if !bytes.Equal(got, guarded(p, first, second)) || e != api.OK {
			t.Fatalf("P3.3: Guard of %d bytes: %d bytes, %d", len(p), len(got), e)
		}
		for i := range got[:cap(got)] {
			got[:cap(got)][i] ^= 0xff
		}
		if !bytes.Equal(p[:cap(p)], before) {
			t.Errorf("P3.3: Guard of %d bytes: the answer is not new memory", len(p))
		}
	}
	if b, e := strip.Guard([]byte{1, 2}); !bytes.Equal(b, []byte{1, 2, 0, 3, 0, 5}) || e != api.OK {
		t.Errorf("P3.3: Guard(01 02) = %x, %d", b, e)
	}
}

func TestGuardOfTooManyBytes(t *testing.T) {
	for _, n := range []int{60001, 60002, 70000} {
		if b, e := strip.Guard(make([]byte, n)); len(b) != 0 || e != api.ErrLong {
			t.Errorf("errors: Guard of %d bytes = %d bytes, %d; want ErrLong", n, len(b), e)
		}
	}
}

func TestMendOfTooFewAndTooManyBytes(t *testing.T) {
	for _, c := range []struct {
		n    int
		want api.Errno
	}{{0, api.ErrShort}, {1, api.ErrShort}, {3, api.ErrShort}, {60005, api.ErrLong}, {70000, api.ErrLong}} {
		if p, at, e := strip.Mend(make([]byte, c.n)); len(p) != 0 || at != 0 || e != c.want {
			t.Errorf("errors: Mend of %d bytes = %d bytes, %d, %d; want %d", c.n, len(p), at, e, c.want)
		}
	}
	for _, n := range []int{4, 60004} {
		if p, at, e := strip.Mend(make([]byte, n)); !bytes.Equal(p, make([]byte, n-4)) || at != -1 || e != api.OK {
			t.Errorf("P3.3: Mend of %d bytes = %d bytes, %d, %d", n, len(p), at, e)
		}
	}
}

// mend asks for p and a place, and that the answer is new memory.
func mend(t *testing.T, b, p []byte, place int) {
	t.Helper()
	before := slices.Clone(b)
	got, at, e := strip.Mend(b)
	if !bytes.Equal(got, p) || at != place || e != api.OK {
		t.Fatalf("P3.3: Mend of %d bytes = %d bytes, %d, %d; want place %d", len(b), len(got), at, e, place)
	}
	for i := range got[:cap(got)] {
		got[:cap(got)][i] ^= 0xff
	}
	if !bytes.Equal(b, before) {
		t.Fatalf("P3.3: Mend of %d bytes: the answer is not new memory, or the bytes have changed", len(b))
	}
}

// placeOf is where a fault at a byte of guarded bytes is told: at the byte, or at its weight's begin.
func placeOf(at, length int) int {
	if at < length {
		return at
	}
	return length + (at-length)/2*2
}

func TestMendWhateverOneByteIsTurnedInto(t *testing.T) {
	all := [][]byte{nil, {0}, {255}, {1, 2}, {255, 255, 255}, make([]byte, 5), some(300, 1), bytes.Repeat([]byte{255}, 257), bytes.Repeat([]byte{255}, 258)}
	for _, p := range all {
		whole, _ := strip.Guard(p)
		mend(t, whole, p, -1)
		for i := range whole {
			for x := range 256 {
				b := slices.Clone(whole)
				b[i] = byte(x)
				if b[i] != whole[i] {
					mend(t, b, p, placeOf(i, len(p)))
				}
			}
		}
	}
}

func TestMendOfTheMostBytes(t *testing.T) {
	for _, p := range [][]byte{some(60000, 2), make([]byte, 60000), bytes.Repeat([]byte{255}, 60000)} {
		whole, _ := strip.Guard(p)
		mend(t, whole, p, -1)
		r := rand.New(rand.NewSource(7))
		places := []int{0, 1, 29999, 32760, 32761, 59998, 59999, 60000, 60001, 60002, 60003}
		for range 20 {
			places = append(places, r.Intn(60000))
		}
		for _, i := range places {
			for _, d := range []byte{1, 2, 128, 255, byte(1 + r.Intn(255))} {
				b := slices.Clone(whole)
				b[i] += d
				mend(t, b, p, placeOf(i, len(p)))
			}
		}
	}
}

func TestMendAsTheChapterTells(t *testing.T) {
	mend(t, []byte{1, 2, 0, 3, 0, 5}, []byte{1, 2}, -1)
	mend(t, []byte{1, 9, 0, 3, 0, 5}, []byte{1, 2}, 1)
	mend(t, []byte{1, 2, 0, 4, 0, 5}, []byte{1, 2}, 2)
	mend(t, []byte{1, 2, 0, 3, 1, 5}, []byte{1, 2}, 4)
	mend(t, []byte{1, 2, 0xff, 0xff, 0, 5}, []byte{1, 2}, 2)
	mend(t, []byte{1, 2, 0, 3, 0xff, 0xff}, []byte{1, 2}, 4)
	mend(t, []byte{0xff, 0xf1, 0, 0}, nil, 0) // 65521 is not the weight 0
	mend(t, []byte{0, 0, 0xff, 0xf1}, nil, 2)
	mend(t, []byte{0, 0xff, 0xf2, 0xff, 0xf2}, []byte{1}, 0) // 1 above, modulo the prime
}

func TestMendOfWhatCannotBeMended(t *testing.T) {
	for _, b := range [][]byte{
		{1, 2, 0, 4, 0, 4},
		{0, 0, 0xff, 0xf1, 0xff, 0xf1}, // both told otherwise, and yet neither above
		{0, 0, 0xff, 0xf1, 0, 1},
		{0, 0, 0, 1, 0xff, 0xf1},
		{0, 1, 0, 1},
		{0xff, 0xff, 0xff, 0xff},
		{0, 0, 0, 1, 0, 3},             // of a third byte
		{255, 0, 1, 0, 1, 0},           // 255 and 1 more
		{0, 0, 0xff, 0xf0, 0xff, 0xf0}, // the byte 0 and 1 less
		{0, 0xff, 0xf0, 0xff, 0xf0},
		{3, 1, 0, 0, 0, 0},
		{5, 5, 0, 4, 0, 5},
	} {
		first, second := weights(b[:len(b)-4])
		if _, _, ok := search(b, first, second); ok {
			t.Fatalf("%x can be mended", b)
		}
		if p, at, e := strip.Mend(b); len(p) != 0 || at != 0 || e != api.ErrSum {
			t.Errorf("P3.3: Mend(%x) = %x, %d, %d; want ErrSum", b, p, at, e)
		}
	}
}

// search looks for the byte to put right by trying each one with each other value.
func search(b []byte, first, second int) ([]byte, int, bool) {
	end := len(b) - 4
	one, two := int(b[end])<<8|int(b[end+1]), int(b[end+2])<<8|int(b[end+3])
	if one == first || two == second {
		at := -1
		if one != first {
			at = end
		} else if two != second {
			at = end + 2
		}
		return slices.Clone(b[:end]), at, true
	}
	for i := range end {
		for x := range 256 {
			p := slices.Clone(b[:end])
			p[i] = byte(x)
			f, s := weights(p)
			if x != int(b[i]) && f == one%prime && s == two%prime {
				return p, i, true
			}
		}
	}
	return nil, 0, false
}

func TestMendOfAnyBytes(t *testing.T) {
	r := rand.New(rand.NewSource(5))
	mended := 0
	for range 3000 {
		p := some(r.Intn(6), r.Int63())
		first, second := weights(p)
		near := func(x int) int { return (x + prime + r.Intn(9) - 4) % prime }
		b := guarded(p, near(first), near(second))
		if r.Intn(4) == 0 {
			copy(b[len(p):], some(4, r.Int63()))
		}
		want, place, ok := search(b, first, second)
		if ok {
			mended++
			mend(t, b, want, place)
			continue
		}
		if got, at, e := strip.Mend(b); len(got) != 0 || at != 0 || e != api.ErrSum {
			t.Errorf("P3.3: Mend(%x) = %x, %d, %d; want ErrSum", b, got, at, e)
		}
	}
	if mended < 300 || mended > 2700 {
		t.Errorf("%d of 3000 could be mended: the test looks at one kind alone", mended)
	}
}
