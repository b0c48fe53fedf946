package session_test

import (
	"reflect"
	"slices"
	"testing"
)

// same takes nil and empty lists for alike.
func same[T any](a, b T) bool {
	return reflect.DeepEqual(tidied(a), tidied(b))
}

// tidied is a deep copy, in which no list is empty.
func tidied[T any](x T) T {
	return copied(x, func(l reflect.Value) reflect.Value { return l })
}

// whole is a deep copy, in which the spare room of each list is a part of it.
func whole[T any](x T) T {
	return copied(x, func(l reflect.Value) reflect.Value { return l.Slice(0, l.Cap()) })
}

func copied[T any](x T, part func(reflect.Value) reflect.Value) T {
	c := reflect.New(reflect.TypeFor[T]()).Elem()
	copyInto(c, reflect.ValueOf(x), part)
	return c.Interface().(T)
}

func copyInto(to, from reflect.Value, part func(reflect.Value) reflect.Value) {
	switch from.Kind() {
	case reflect.Struct:
		for i := range from.NumField() {
			copyInto(to.Field(i), from.Field(i), part)
		}
	case reflect.Slice:
		l := part(from)
		if l.Len() == 0 {
			return
		}
		to.Set(reflect.MakeSlice(l.Type(), l.Len(), l.Len()))
		for i := range l.Len() {
			copyInto(to.Index(i), l.Index(i), part)
		}
	default:
		to.Set(from)
	}
}

// roomy is a deep copy in which each list has spare room, with marks in it.
func roomy[T any](x T) T {
	c := tidied(x)
	addRoom(reflect.ValueOf(&c).Elem())
	return c
}

func addRoom(x reflect.Value) {
	switch x.Kind() {
	case reflect.Struct:
		for i := range x.NumField() {
			addRoom(x.Field(i))
		}
	case reflect.Slice:
		n := x.Len()
		marked := reflect.MakeSlice(x.Type(), n+3, n+3)
		reflect.Copy(marked, x)
		for i := range n + 3 {
			if i < n {
				addRoom(marked.Index(i))
			} else {
				stain(marked.Index(i))
			}
		}
		x.Set(marked.Slice(0, n))
	}
}

// stain sets each number below x to another one, and leaves lists as they are.
func stain(x reflect.Value) {
	switch x.Kind() {
	case reflect.Struct:
		for i := range x.NumField() {
			stain(x.Field(i))
		}
	case reflect.Bool:
		x.SetBool(!x.Bool())
	case reflect.Slice:
	case reflect.Uint8:
		x.SetUint(x.Uint() ^ 0xff)
	default:
		x.SetInt(-77 - x.Int())
	}
}

// lists are all lists of a thing, those inside elements too, also inside of elements in spare room.
func lists(x reflect.Value) []reflect.Value {
	var all []reflect.Value
	switch x.Kind() {
	case reflect.Struct:
		for i := range x.NumField() {
			all = append(all, lists(x.Field(i))...)
		}
	case reflect.Slice:
		all = append(all, x)
		room := x.Slice(0, x.Cap())
		for i := range room.Len() {
			all = append(all, lists(room.Index(i))...)
		}
	}
	return all
}

// spoil writes over each element of a list, and over its spare room; done twice, it stands as before again.
func spoil(l reflect.Value) {
	room := l.Slice(0, l.Cap())
	for i := range room.Len() {
		stain(room.Index(i))
	}
}

// numbers is what stands in a list and in its spare room, without the lists inside.
func numbers(x reflect.Value) []int64 {
	var all []int64
	switch x.Kind() {
	case reflect.Struct:
		for i := range x.NumField() {
			if x.Field(i).Kind() != reflect.Slice {
				all = append(all, numbers(x.Field(i))...)
			}
		}
	case reflect.Slice:
		room := x.Slice(0, x.Cap())
		for i := range room.Len() {
			all = append(all, numbers(room.Index(i))...)
		}
	case reflect.Bool:
		if x.Bool() {
			return []int64{1}
		}
		return []int64{0}
	case reflect.Uint8:
		all = append(all, int64(x.Uint()))
	default:
		all = append(all, x.Int())
	}
	return all
}

// alone writes into each list of all things, also into the lists inside of it, and looks at all others.
func alone(t *testing.T, what string, things ...any) {
	t.Helper()
	var all []reflect.Value
	for _, x := range things {
		all = append(all, lists(reflect.ValueOf(x).Elem())...)
	}
	var before [][]int64
	for _, l := range all {
		before = append(before, numbers(l))
	}
	for i, l := range all {
		spoil(l)
		for j, other := range all {
			if i != j && !slices.Equal(numbers(other), before[j]) {
				t.Fatalf("memory: %s: a list of %s and one of %s share some", what, l.Type(), other.Type())
			}
		}
		spoil(l)
	}
}

// span is the memory of a list, with its spare room.
type span struct{ from, to uintptr }

func spans(things []any) []span {
	var all []span
	for _, x := range things {
		for _, l := range lists(reflect.ValueOf(x).Elem()) {
			if l.Cap() > 0 {
				all = append(all, span{l.Pointer(), l.Pointer() + uintptr(l.Cap())*l.Type().Elem().Size()})
			}
		}
	}
	return all
}

// unshared asks that no two lists of all these share any memory: quicker than alone.
func unshared(t *testing.T, what string, things ...any) {
	t.Helper()
	all := spans(things)
	slices.SortFunc(all, func(a, b span) int {
		if a.from < b.from {
			return -1
		}
		return 1
	})
	for i := 1; i < len(all); i++ {
		if all[i].from < all[i-1].to {
			t.Fatalf("memory: %s: two lists of what is handed in and answered share some", what)
		}
	}
}
