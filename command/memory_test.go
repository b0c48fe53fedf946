package command_test

import (
	"bytes"
	"reflect"
	"slices"
	"testing"

	"furlong/api"
)

// lists are all lists of a thing, those inside elements too, also of elements in spare room.
func lists(x reflect.Value) []reflect.Value {
	var all []reflect.Value
	switch x.Kind() {
	case reflect.Struct:
		for i := range x.NumField() {
			all = append(all, lists(x.Field(i))...)
		}
	case reflect.Slice:
		all = append(all, x)
		room := x.Slice(0, x.Cap())
		for i := range room.Len() {
			all = append(all, lists(room.Index(i))...)
		}
	}
	return all
}

func listsOf[T any](x *T) []reflect.Value {
	return lists(reflect.ValueOf(x).Elem())
}

// stain sets each number below x to -77, and leaves lists as they are.
func stain(x reflect.Value) {
	switch x.Kind() {
	case reflect.Struct:
		for i := range x.NumField() {
			stain(x.Field(i))
		}
	case reflect.Bool:
		x.SetBool(!x.Bool())
	case reflect.Slice:
	default:
		x.SetInt(-77)
	}
}

// spoil writes over each element of all lists of a thing, and over their spare room.
func spoil[T any](x *T) {
	for _, l := range listsOf(x) {
		room := l.Slice(0, l.Cap())
		for i := range room.Len() {
			stain(room.Index(i))
		}
	}
}

func spoilBytes(b []byte) {
	room := b[:cap(b)]
	for i := range room {
		room[i] ^= 0xff
	}
}

// roomy is a deep copy of x in which each list has spare room, with marks in it.
func roomy[T any](x T) T {
	c := tidied(x)
	for _, l := range listsOf(&c) {
		n := l.Len()
		whole := reflect.MakeSlice(l.Type(), n+3, n+3)
		reflect.Copy(whole, l)
		for i := range 3 {
			stain(whole.Index(n + i))
		}
		l.Set(whole.Slice(0, n))
	}
	return c
}

// wholly is what stands in all lists of x, with their spare room.
func wholly[T any](x T) []string {
	var all []string
	for _, l := range listsOf(&x) {
		p := plainly(l.Slice(0, l.Cap()).Interface())
		all = append(all, string(p.b))
	}
	return all
}

// testEncodeMemory asks twice, writes over the first answer, and looks at what was handed in and at the second answer.
func testEncodeMemory[T any](t *testing.T, c coder[T], all []T) {
	t.Helper()
	for _, x := range all {
		given := roomy(x)
		before := wholly(given)
		first, _ := c.encode(given)
		second, err := c.encode(given)
		want := slices.Clone(first)
		spoilBytes(first)
		_ = append(first, 1, 2, 3)
		if !bytes.Equal(second, want) || err != api.OK {
			t.Errorf("memory: two answers of Encode%s share some, or differ", c.name)
		}
		if !slices.Equal(wholly(given), before) || !same(given, x) {
			t.Errorf("memory: Encode%s changes what is handed in", c.name)
		}
		spoil(&given)
		if !bytes.Equal(second, want) {
			t.Errorf("memory: the answer of Encode%s hangs on what was handed in", c.name)
		}
	}
}

func TestEncodeAnswersNewMemory(t *testing.T) {
	testEncodeMemory(t, entries, someEntries())
	testEncodeMemory(t, answers, someAnswers())
	testEncodeMemory(t, states, someStates())
}

// What is refused stays as it was too.
func testRefused[T any](t *testing.T, c coder[T], all map[string]T) {
	t.Helper()
	for name, x := range all {
		given := roomy(x)
		before := wholly(given)
		if b, err := c.encode(given); len(b) > 0 || err == api.OK {
			t.Errorf("errors: Encode%s, %s: %d", c.name, name, err)
		}
		if !slices.Equal(wholly(given), before) {
			t.Errorf("memory: Encode%s, %s, changes what is handed in", c.name, name)
		}
	}
}

func TestWhatIsRefusedStays(t *testing.T) {
	long := entriesWith(most + 1)
	long["a Kind below 0"] = api.Entry{Command: api.Command{Kind: -1, Task: aTask(1, 2)}}
	testRefused(t, entries, long)
	testRefused(t, answers, answersWith(most+1))
	testRefused(t, states, statesWith(most+1))
}

// testDecodeMemory writes over all lists of the first answer, and looks at the bytes and at the second answer.
func testDecodeMemory[T any](t *testing.T, c coder[T], all []T) {
	t.Helper()
	for _, x := range all {
		b := append(plainly(x).b, 9, 9, 9)
		b = b[:len(b)-3]
		before := slices.Clone(b[:cap(b)])
		first, _, _ := c.decode(b)
		second, _, _ := c.decode(b)
		apart(t, c.name, &first)
		spoil(&first)
		if !same(second, x) {
			t.Errorf("memory: two answers of Decode%s share some, or differ", c.name)
		}
		if !bytes.Equal(b[:cap(b)], before) {
			t.Errorf("memory: Decode%s changes what is handed in, or shares it", c.name)
		}
		spoilBytes(b)
		third, _, err := c.decode(before[:len(b)])
		if !same(second, x) || !same(third, x) || err != api.OK {
			t.Errorf("memory: the answer of Decode%s hangs on what was handed in, or on an earlier answer", c.name)
		}
	}
}

// apart asks that no two lists of x share any memory, their spare room neither.
func apart[T any](t *testing.T, name string, x *T) {
	t.Helper()
	type span struct{ from, to uintptr }
	var spans []span
	for _, l := range listsOf(x) {
		if l.Cap() > 0 {
			spans = append(spans, span{l.Pointer(), l.Pointer() + uintptr(l.Cap())*l.Type().Elem().Size()})
		}
	}
	slices.SortFunc(spans, func(a, b span) int {
		if a.from < b.from {
			return -1
		}
		return 1
	})
	for i := 1; i < len(spans); i++ {
		if spans[i].from < spans[i-1].to {
			t.Errorf("memory: two lists of an answer of Decode%s share some", name)
		}
	}
}

// full has many lists inside of its lists.
func full() api.State {
	s := aState()
	for i := range 40 {
		s.Tasks = append(s.Tasks, aTask(ints(i)...))
		s.Leases = append(s.Leases, aLease(ints(40-i)...))
	}
	return s
}

func TestDecodeAnswersNewMemory(t *testing.T) {
	testDecodeMemory(t, entries, someEntries())
	testDecodeMemory(t, answers, append(someAnswers(), api.Answer{Cores: ints(9), Leases: full().Leases}))
	testDecodeMemory(t, states, append(someStates(), full()))
}

// Writing into one list of an answer, and behind its end, leaves the others as they were.
func TestListsOfOneAnswerStandAlone(t *testing.T) {
	b := plainly(full()).b
	s, _, _ := states.decode(b)
	for i := range s.Tasks {
		tickets := append(s.Tasks[i].Tickets, -1, -2, -3)
		clear(tickets[:cap(tickets)])
		s.Tasks[i].Tickets = nil
		want := full()
		for j := range i + 1 {
			want.Tasks[j].Tickets = nil
		}
		if !same(s, want) {
			t.Fatalf("memory: the tickets of task %d share some with another list", i)
		}
	}
}

func TestBytesThatAreRefusedStay(t *testing.T) {
	for _, b := range [][]byte{nil, {0}, {0, 0, 0, 0, 0, 0}, {0, 0, 0, 0xc1, 2, 0x41, 5}, {0xc8, 1, 2}, make([]byte, 400)} {
		given := append(slices.Clone(b), 9, 9, 9)
		before := slices.Clone(given[:cap(given)])
		answers.decode(given[:len(b)])
		entries.decode(given[:len(b)])
		states.decode(given[:len(b)])
		if !bytes.Equal(given[:cap(given)], before) {
			t.Errorf("memory: Decode of %x changes it", b)
		}
	}
}
