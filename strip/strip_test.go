package strip_test

import (
	"bytes"
	"math"
	"math/big"
	"math/rand"
	"slices"
	"testing"

	"furlong/api"
	"furlong/strip"
)

const most = math.MaxUint64

// begins are the first numbers of the shelves, reckoned without bounds; the last one of them is that of a ninth shelf, if the eighth one were whole.
func begins() []*big.Int {
	at := big.NewInt(192)
	all := []*big.Int{at}
	for k := 1; k <= 8; k++ {
		at = new(big.Int).Add(at, new(big.Int).Exp(big.NewInt(256), big.NewInt(int64(k)), nil))
		all = append(all, at)
	}
	return all
}

// plainly lays a number as the chapter tells it, without the program's means.
func plainly(x uint64) []byte {
	n := new(big.Int).SetUint64(x)
	from := begins()
	if n.Cmp(from[0]) < 0 {
		return []byte{byte(x)}
	}
	k := 1
	for n.Cmp(from[k]) >= 0 {
		k++
	}
	far := new(big.Int).Sub(n, from[k-1])
	return append([]byte{byte(191 + k)}, far.FillBytes(make([]byte, k))...)
}

// numbers are the ends of all shelves, and many between.
func numbers() []uint64 {
	all := []uint64{0, 1, 2, 190, most, most - 1, math.MaxInt64, math.MaxInt64 + 1}
	for _, from := range begins()[:8] {
		for d := uint64(0); d < 6; d++ {
			all = append(all, from.Uint64()+d, from.Uint64()-d-1)
		}
	}
	for k := range 64 {
		all = append(all, 1<<k, 1<<k-1)
	}
	r := rand.New(rand.NewSource(1))
	for range 3000 {
		all = append(all, r.Uint64()>>r.Intn(64))
	}
	return all
}

func wholeNumbers() []int64 {
	var all []int64
	for _, x := range numbers() {
		all = append(all, int64(x), -int64(x))
	}
	return append(all, math.MinInt64, math.MinInt64+1, math.MaxInt64, math.MaxInt64-1)
}

// heads are what stands ahead of what is laid; the last ones have spare room.
func heads() [][]byte {
	return [][]byte{nil, {}, {7}, {0xc8, 0xff}, make([]byte, 0, 40), append(make([]byte, 0, 40), 1, 2, 3)}
}

// lay asks that a call writes want behind each head, into new memory, and leaves what it was handed.
func lay(t *testing.T, name string, call func(b []byte) []byte, want []byte) {
	t.Helper()
	for _, b := range heads() {
		before := slices.Clone(b[:cap(b)])
		got := call(b)
		if !bytes.Equal(got, append(slices.Clone(b), want...)) {
			t.Fatalf("P3.1: %s behind %x = %x; want %x", name, b, got, want)
		}
		for i := range got[:cap(got)] {
			got[:cap(got)][i] ^= 0xff
		}
		if !bytes.Equal(b[:cap(b)], before) {
			t.Fatalf("P3.1: %s behind %x: what was handed in has changed", name, before)
		}
		if again := call(b); !bytes.Equal(again, append(slices.Clone(b), want...)) {
			t.Fatalf("P3.1: %s behind %x, again: %x", name, b, again)
		}
	}
}

func TestLayWritesANumber(t *testing.T) {
	for _, x := range numbers() {
		want := plainly(x)
		lay(t, "Lay", func(b []byte) []byte { return strip.Lay(b, x) }, want)
		if got := strip.Size(x); got != len(want) {
			t.Errorf("P3.1: Size(%d) = %d; want %d", x, got, len(want))
		}
	}
}

func TestLayAsTheChapterTells(t *testing.T) {
	for _, c := range []struct {
		x    uint64
		want []byte
	}{
		{0, []byte{0}},
		{191, []byte{191}},
		{192, []byte{0xc0, 0}},
		{300, []byte{0xc0, 0x6c}},
		{447, []byte{0xc0, 0xff}},
		{448, []byte{0xc1, 0, 0}},
		{448 + 65535, []byte{0xc1, 0xff, 0xff}},
		{448 + 65536, []byte{0xc2, 0, 0, 0}},
		{448 + 65536 + 0x010203, []byte{0xc2, 1, 2, 3}},
		{most, []byte{0xc7, 0xfe, 0xfe, 0xfe, 0xfe, 0xfe, 0xfe, 0xfe, 0x3f}},
	} {
		if got := strip.Lay(nil, c.x); !bytes.Equal(got, c.want) {
			t.Errorf("P3.1: Lay(%d) = %x; want %x", c.x, got, c.want)
		}
	}
}

func TestLayIntGoesByTheRow(t *testing.T) {
	row := []int64{0, -1, 1, -2, 2, -3, 3}
	for place, x := range row {
		if got := strip.LayInt(nil, x); !bytes.Equal(got, []byte{byte(place)}) {
			t.Errorf("P3.1: LayInt(%d) = %x; want %x", x, got, place)
		}
	}
	for _, x := range wholeNumbers() {
		place := new(big.Int).Mul(big.NewInt(x), big.NewInt(2))
		if x < 0 {
			place.Neg(place).Sub(place, big.NewInt(1))
		}
		lay(t, "LayInt", func(b []byte) []byte { return strip.LayInt(b, x) }, plainly(place.Uint64()))
	}
}

func TestLayBytesWritesTheCountAndThese(t *testing.T) {
	for _, n := range []int{0, 1, 2, 191, 192, 193, 447, 448, 449, 65983, 65984} {
		p := make([]byte, n, n+9)
		rand.New(rand.NewSource(int64(n))).Read(p)
		before := slices.Clone(p[:cap(p)])
		lay(t, "LayBytes", func(b []byte) []byte { return strip.LayBytes(b, p) }, append(plainly(uint64(n)), p...))
		if !bytes.Equal(p[:cap(p)], before) {
			t.Errorf("P3.1: LayBytes of %d bytes has changed them", n)
		}
	}
	lay(t, "LayBytes of nil", func(b []byte) []byte { return strip.LayBytes(b, nil) }, []byte{0})
	more := make([]byte, api.MaxBytes+1) // no bytes are too many to be laid
	lay(t, "LayBytes of many", func(b []byte) []byte { return strip.LayBytes(b, more) }, append(plainly(api.MaxBytes+1), more...))
}

func TestLayBytesOfItsOwnHead(t *testing.T) {
	b := append(make([]byte, 0, 40), 5, 6, 7)
	if got := strip.LayBytes(b, b[1:]); !bytes.Equal(got, []byte{5, 6, 7, 2, 6, 7}) {
		t.Errorf("P3.1: LayBytes = %x", got)
	}
}

// among answers b with other bytes around it, and the place at which it begins.
func among(b []byte) ([]byte, int) {
	all := append([]byte{0xc7, 9, 0xff}, b...)
	return append(all, 0xff, 1, 0xc7), 3
}

func TestReadTellsWhatWasLaid(t *testing.T) {
	for _, x := range numbers() {
		all, at := among(plainly(x))
		for range 2 {
			if got, next, e := strip.Read(all, at); got != x || next != len(all)-3 || e != api.OK {
				t.Errorf("P3.1: Read(%x, %d) = %d, %d, %d; want %d", all, at, got, next, e, x)
			}
		}
	}
	for _, x := range wholeNumbers() {
		all, at := among(strip.LayInt(nil, x))
		if got, next, e := strip.ReadInt(all, at); got != x || next != len(all)-3 || e != api.OK {
			t.Errorf("P3.1: ReadInt(%x, %d) = %d, %d, %d; want %d", all, at, got, next, e, x)
		}
	}
}

func TestReadGoesOnToTheEnd(t *testing.T) {
	var b []byte
	for _, x := range numbers() {
		b = strip.Lay(b, x)
	}
	at := 0
	for _, want := range numbers() {
		x, next, e := strip.Read(b, at)
		if x != want || e != api.OK {
			t.Fatalf("P3.1: Read at %d = %d, %d; want %d", at, x, e, want)
		}
		at = next
	}
	if x, next, e := strip.Read(b, at); x != 0 || next != len(b) || e != api.ErrShort {
		t.Errorf("errors: Read at the end = %d, %d, %d; want ErrShort", x, next, e)
	}
}

func TestReadBytesTellsWhatWasLaid(t *testing.T) {
	for _, n := range []int{0, 1, 2, 191, 192, 447, 448, 70000, api.MaxBytes - 1, api.MaxBytes} {
		p := make([]byte, n)
		rand.New(rand.NewSource(int64(n))).Read(p)
		all, at := among(strip.LayBytes(nil, p))
		before := slices.Clone(all)
		got, next, e := strip.ReadBytes(all, at)
		if !bytes.Equal(got, p) || next != len(all)-3 || e != api.OK {
			t.Fatalf("P3.1: ReadBytes of %d bytes = %d bytes, %d, %d", n, len(got), next, e)
		}
		for i := range got[:cap(got)] {
			got[:cap(got)][i] ^= 0xff
		}
		if !bytes.Equal(all, before) {
			t.Errorf("P3.1: ReadBytes of %d bytes: the answer is not new memory", n)
		}
		alone := strip.LayBytes(nil, p) // nothing stands behind them
		if got, next, e := strip.ReadBytes(alone, 0); !bytes.Equal(got, p) || next != len(alone) || e != api.OK {
			t.Errorf("P3.1: ReadBytes of %d bytes alone = %d bytes, %d, %d", n, len(got), next, e)
		}
	}
}

// fault asks all three reads for the same error at the same place.
func fault(t *testing.T, b []byte, at int, want api.Errno, place int) {
	t.Helper()
	if x, next, e := strip.Read(b, at); x != 0 || next != place || e != want {
		t.Errorf("errors: Read(%x, %d) = %d, %d, %d; want %d at %d", b, at, x, next, e, want, place)
	}
	if x, next, e := strip.ReadInt(b, at); x != 0 || next != place || e != want {
		t.Errorf("errors: ReadInt(%x, %d) = %d, %d, %d; want %d at %d", b, at, x, next, e, want, place)
	}
	if p, next, e := strip.ReadBytes(b, at); len(p) != 0 || next != place || e != want {
		t.Errorf("errors: ReadBytes(%x, %d) = %x, %d, %d; want %d at %d", b, at, p, next, e, want, place)
	}
}

func TestReadOutsideTheBytes(t *testing.T) {
	for _, b := range [][]byte{nil, {}, {5}, {0xc8}, {0xc1, 0}, make([]byte, 3, 40)} {
		for _, at := range []int{math.MinInt, -2, -1, len(b) + 1, len(b) + 2, math.MaxInt} {
			fault(t, b, at, api.ErrArg, 0)
		}
		fault(t, b, len(b), api.ErrShort, len(b))
	}
}

func TestReadOfBytesThatEnd(t *testing.T) {
	for _, x := range numbers() {
		b := strip.Lay([]byte{0xff, 0}, x)
		for end := 2; end < len(b); end++ {
			fault(t, b[:end:end], 2, api.ErrShort, end)
			fault(t, b[:end], 2, api.ErrShort, end) // what is behind the end is not looked at
		}
	}
	for k := 1; k <= 8; k++ { // ended, so that it is not to be told whether the number would be too great
		b := append([]byte{byte(191 + k)}, bytes.Repeat([]byte{0xff}, k-1)...)
		fault(t, b, 0, api.ErrShort, k)
	}
}

func TestReadOfHeadsThatAreNone(t *testing.T) {
	for head := 200; head <= 255; head++ {
		fault(t, []byte{byte(head)}, 0, api.ErrForm, 0)
		fault(t, append([]byte{1, 2, byte(head)}, make([]byte, 20)...), 2, api.ErrForm, 2)
	}
	for head := 0; head <= 199; head++ {
		if _, _, e := strip.Read(append([]byte{byte(head)}, make([]byte, 8)...), 0); e != api.OK {
			t.Errorf("P3.1: Read of the head %d: %d", head, e)
		}
	}
}

func TestReadOfNumbersAboveTheGreatest(t *testing.T) {
	last := plainly(most)
	for _, b := range [][]byte{
		{0xc7, 0xfe, 0xfe, 0xfe, 0xfe, 0xfe, 0xfe, 0xfe, 0x40},
		{0xc7, 0xfe, 0xfe, 0xfe, 0xfe, 0xfe, 0xfe, 0xff, 0},
		{0xc7, 0xff, 0, 0, 0, 0, 0, 0, 0},
		{0xc7, 0xff, 0xff, 0xff, 0xff, 0xff, 0xff, 0xff, 0xff},
	} {
		fault(t, b, 0, api.ErrForm, 0)
		fault(t, append([]byte{3, 4}, b...), 2, api.ErrForm, 2)
	}
	for i := 1; i < len(last); i++ { // each byte one higher
		b := slices.Clone(last)
		b[i]++
		fault(t, b, 0, api.ErrForm, 0)
	}
	if x, next, e := strip.Read(last, 0); x != most || next != 9 || e != api.OK {
		t.Errorf("P3.1: Read(%x, 0) = %d, %d, %d", last, x, next, e)
	}
}

func TestReadBytesTooManyOrTooFew(t *testing.T) {
	for _, c := range []struct {
		told  uint64
		there int
		want  api.Errno
	}{
		{1, 0, api.ErrShort},
		{2, 1, api.ErrShort},
		{300, 299, api.ErrShort},
		{api.MaxBytes, 0, api.ErrShort},
		{api.MaxBytes, api.MaxBytes - 1, api.ErrShort},
		{api.MaxBytes + 1, 0, api.ErrLong},
		{api.MaxBytes + 1, api.MaxBytes + 1, api.ErrLong},
		{1 << 63, 5, api.ErrLong},
		{most, 5, api.ErrLong},
	} {
		for _, at := range []int{0, 3} {
			b := append(strip.Lay(make([]byte, at), c.told), make([]byte, c.there)...)
			place := len(b)
			if c.want == api.ErrLong {
				place = at
			}
			if p, next, e := strip.ReadBytes(b, at); len(p) != 0 || next != place || e != c.want {
				t.Errorf("errors: ReadBytes of %d told, %d there, at %d = %d bytes, %d, %d; want %d at %d", c.told, c.there, at, len(p), next, e, c.want, place)
			}
		}
	}
}

func TestNumbersKeepTheirOrder(t *testing.T) {
	all := numbers()
	slices.Sort(all)
	all = slices.Compact(all)
	for i, x := range all[1:] {
		lesser, greater := strip.Lay(nil, all[i]), strip.Lay(nil, x)
		if bytes.Compare(lesser, greater) >= 0 || bytes.HasPrefix(greater, lesser) {
			t.Errorf("P3.2: %d is %x, and %d is %x", all[i], lesser, x, greater)
		}
	}
	for x := range uint64(70000) {
		lesser, greater := strip.Lay(nil, x), strip.Lay(nil, x+1)
		if bytes.Compare(lesser, greater) >= 0 || bytes.HasPrefix(greater, lesser) {
			t.Fatalf("P3.2: %d is %x, and %d is %x", x, lesser, x+1, greater)
		}
	}
}

// TestOneWayToWrite: what is read is written as just those bytes again.
func TestOneWayToWrite(t *testing.T) {
	r := rand.New(rand.NewSource(3))
	for range 20000 {
		b := make([]byte, 9)
		r.Read(b)
		b[0] = byte(r.Intn(200))
		x, next, e := strip.Read(b, 0)
		if e != api.OK {
			continue
		}
		if again := strip.Lay(nil, x); !bytes.Equal(again, b[:next]) {
			t.Errorf("P3.1: %x is read as %d, which is written as %x", b[:next], x, again)
		}
	}
}
