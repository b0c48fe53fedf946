package session_test

import (
	"math"
	"math/rand"
	"reflect"
	"testing"

	"furlong/api"
	"furlong/session"
)

// junk fills a thing with numbers at all ends, and its lists with some of that.
func junk(r *rand.Rand, x reflect.Value) {
	switch x.Kind() {
	case reflect.Struct:
		for i := range x.NumField() {
			junk(r, x.Field(i))
		}
	case reflect.Slice:
		n := r.Intn(4)
		x.Set(reflect.MakeSlice(x.Type(), n, n))
		for i := range n {
			junk(r, x.Index(i))
		}
	case reflect.Bool:
		x.SetBool(r.Intn(2) == 0)
	default:
		ends := []int64{0, 1, 2, 3, 4, -1, 64, 65, 1024, api.MaxRes, math.MinInt64, math.MaxInt64}
		if r.Intn(3) > 0 {
			ends = ends[:5]
		}
		x.SetInt(ends[r.Intn(len(ends))])
	}
}

func filled[T any](r *rand.Rand) T {
	var x T
	junk(r, reflect.ValueOf(&x).Elem())
	return x
}

// P1: the calls end, and don't panic, of junk, and of a book that has lived.
func TestJunkEnds(t *testing.T) {
	r := rand.New(rand.NewSource(1))
	good := lived(t)
	for range 4000 {
		b, l := filled[session.Book](r), filled[[]api.Entry](r)
		session.New(b.State)
		session.Fold(b, l)
		session.Fold(good, l)
		for _, e := range l {
			session.Step(b, e)
			session.Step(session.Book{State: good.State, Last: b.Last}, e)
		}
		p, err := session.Encode(b)
		if err == api.OK {
			session.Decode(p)
		}
	}
	session.Step(session.Book{}, api.Entry{})
	session.Fold(session.Book{}, nil)
	session.New(api.State{})
}
