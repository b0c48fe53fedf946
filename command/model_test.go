package command_test

import (
	"bytes"
	"math"
	"math/rand"
	"reflect"
	"slices"
	"testing"

	"furlong/api"
	"furlong/strip"
)

// The sorts of what is written.
const (
	whole = "whole number"
	count = "count"
	kind  = "kind"
	flag  = "flag"
)

// mark is where a number of a thing stands in its bytes.
type mark struct {
	sort    string
	at, end int
}

// paper is what is written plainly: the fields of api's types, as they stand there, one behind the other.
type paper struct {
	b     []byte
	marks []mark
}

func (p *paper) lay(sort string, b []byte) {
	p.marks = append(p.marks, mark{sort, len(p.b), len(p.b) + len(b)})
	p.b = append(p.b, b...)
}

func (p *paper) write(x reflect.Value, name string) {
	switch {
	case x.Kind() == reflect.Struct:
		for i := range x.NumField() {
			p.write(x.Field(i), x.Type().Field(i).Name)
		}
	case x.Kind() == reflect.Slice:
		p.lay(count, strip.Lay(nil, uint64(x.Len())))
		for i := range x.Len() {
			p.write(x.Index(i), "")
		}
	case x.Kind() == reflect.Bool && x.Bool():
		p.lay(flag, []byte{1})
	case x.Kind() == reflect.Bool:
		p.lay(flag, []byte{0})
	case name == "Kind":
		p.lay(kind, strip.Lay(nil, uint64(x.Int())))
	default:
		p.lay(whole, strip.LayInt(nil, x.Int()))
	}
}

func plainly(x any) paper {
	var p paper
	p.write(reflect.ValueOf(x), "")
	return p
}

// fault is what is met first, with its place.
type fault struct {
	at  int
	err api.Errno
}

// plainRead fills a thing from the front, and panics with the fault that it meets.
type plainRead struct {
	b  []byte
	at int
}

func (r *plainRead) number(most uint64, err api.Errno) uint64 {
	x, next, e := strip.Read(r.b, r.at)
	switch {
	case e != api.OK:
		panic(fault{next, e})
	case x > most:
		panic(fault{r.at, err})
	}
	r.at = next
	return x
}

func (r *plainRead) fill(x reflect.Value, name string) {
	switch {
	case x.Kind() == reflect.Struct:
		for i := range x.NumField() {
			r.fill(x.Field(i), x.Type().Field(i).Name)
		}
	case x.Kind() == reflect.Slice:
		for range r.number(1024, api.ErrLong) {
			element := reflect.New(x.Type().Elem()).Elem()
			r.fill(element, "")
			x.Set(reflect.Append(x, element))
		}
	case x.Kind() == reflect.Bool:
		x.SetBool(r.number(1, api.ErrForm) == 1)
	case name == "Kind":
		x.SetInt(int64(r.number(math.MaxInt64, api.ErrForm)))
	default:
		place := r.number(math.MaxUint64, 0)
		x.SetInt(int64(place>>1) ^ -int64(place&1))
	}
}

func plainDecode[T any](b []byte) (x T, f fault) {
	defer func() {
		if met := recover(); met != nil {
			var none T
			x, f = none, met.(fault)
		}
	}()
	r := &plainRead{b: b}
	r.fill(reflect.ValueOf(&x).Elem(), "")
	if r.at < len(b) {
		panic(fault{r.at, api.ErrExtra})
	}
	return x, fault{}
}

// random sets all numbers below x, mostly to small ones, and lists to a few elements.
func random(r *rand.Rand, x reflect.Value, name string) {
	switch {
	case x.Kind() == reflect.Struct:
		for i := range x.NumField() {
			random(r, x.Field(i), x.Type().Field(i).Name)
		}
	case x.Kind() == reflect.Slice:
		n := r.Intn(4)
		x.Set(reflect.MakeSlice(x.Type(), n, n))
		for i := range n {
			random(r, x.Index(i), "")
		}
	case x.Kind() == reflect.Bool:
		x.SetBool(r.Intn(2) == 1)
	case name == "Kind":
		x.SetInt(int64(r.Uint64()>>1) >> r.Intn(64))
	default:
		x.SetInt(int64(r.Uint64()) >> r.Intn(64))
	}
}

func randomly[T any](r *rand.Rand) T {
	var x T
	random(r, reflect.ValueOf(&x).Elem(), "")
	return x
}

// bend changes some bytes: one of them, one out, one more, or the end.
func bend(r *rand.Rand, b []byte) []byte {
	b = slices.Clone(b)
	for range 1 + r.Intn(3) {
		at := r.Intn(len(b))
		switch r.Intn(6) {
		case 0:
			b = slices.Insert(b, at, byte(r.Intn(256)))
		case 1:
			b = slices.Delete(b, at, at+1)
		case 2:
			b = b[:at]
		case 3:
			b[at] = byte(192 + r.Intn(10))
		case 4:
			b[at] = byte(r.Intn(3))
		default:
			b[at] = byte(r.Intn(256))
		}
		if len(b) == 0 {
			return b
		}
	}
	return b
}

func testRandomly[T any](t *testing.T, c coder[T]) {
	r := rand.New(rand.NewSource(10))
	right, wrong := 0, 0
	for range 4000 {
		x := randomly[T](r)
		b := plainly(x).b
		checkBoth(t, c, "random", x, b)
		bent := bend(r, b)
		want, f := plainDecode[T](bent)
		checkDecode(t, c, "bent", bent, want, f.at, f.err)
		if f.err != api.OK {
			wrong++
			continue
		}
		right++
		if again, err := c.encode(want); !bytes.Equal(again, bent) || err != api.OK {
			t.Errorf("P10.2: Encode%s of what %x is read as: %x, %d", c.name, bent, again, err)
		}
	}
	if right < 400 || wrong < 400 {
		t.Errorf("bent bytes are right %d times, and wrong %d times", right, wrong)
	}
}

func TestRandomThings(t *testing.T) {
	testRandomly(t, entries)
	testRandomly(t, answers)
	testRandomly(t, states)
}

// Bytes that no thing stands behind are refused just as they would be by reading plainly, or are written just so again.
func testAnyBytes[T any](t *testing.T, c coder[T]) {
	r := rand.New(rand.NewSource(11))
	for range 20000 {
		b := make([]byte, r.Intn(60))
		most := []int{2, 4, 192, 194, 256}[r.Intn(5)]
		for i := range b {
			b[i] = byte(r.Intn(most))
		}
		want, f := plainDecode[T](b)
		checkDecode(t, c, "any bytes", b, want, f.at, f.err)
		if f.err == api.OK {
			checkEncode(t, c, "of any bytes", want, b, api.OK)
		}
	}
}

func TestAnyBytes(t *testing.T) {
	testAnyBytes(t, entries)
	testAnyBytes(t, answers)
	testAnyBytes(t, states)
}
