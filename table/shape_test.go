package table_test

import (
	"reflect"
	"slices"
	"testing"
)

// same takes nil and empty lists for alike.
func same[T any](a, b T) bool {
	return reflect.DeepEqual(tidied(a), tidied(b))
}

// tidied is a deep copy, in which no list is empty.
func tidied[T any](x T) T {
	return copied(x, func(l reflect.Value) reflect.Value { return l })
}

// whole is a deep copy, in which the spare room of each list is a part of it.
func whole[T any](x T) T {
	return copied(x, func(l reflect.Value) reflect.Value { return l.Slice(0, l.Cap()) })
}

func copied[T any](x T, part func(reflect.Value) reflect.Value) T {
	c := reflect.New(reflect.TypeFor[T]()).Elem()
	copyInto(c, reflect.ValueOf(x), part)
	return c.Interface().(T)
}

func copyInto(to, from reflect.Value, part func(reflect.Value) reflect.Value) {
	switch from.Kind() {
	case reflect.Struct:
		for i := range from.NumField() {
			copyInto(to.Field(i), from.Field(i), part)
		}
	case reflect.Slice:
		l := part(from)
		if l.Len() == 0 {
			return
		}
		to.Set(reflect.MakeSlice(l.Type(), l.Len(), l.Len()))
		for i := range l.Len() {
			copyInto(to.Index(i), l.Index(i), part)
		}
	default:
		to.Set(from)
	}
}

// lists are all lists of a thing, those inside elements too, also inside of elements in spare room.
func lists(x reflect.Value) []reflect.Value {
	var all []reflect.Value
	switch x.Kind() {
	case reflect.Struct:
		for i := range x.NumField() {
			all = append(all, lists(x.Field(i))...)
		}
	case reflect.Slice:
		all = append(all, x)
		room := x.Slice(0, x.Cap())
		for i := range room.Len() {
			all = append(all, lists(room.Index(i))...)
		}
	}
	return all
}

// roomy is a deep copy in which each list has spare room, with marks in it.
func roomy[T any](x T) T {
	c := tidied(x)
	for _, l := range lists(reflect.ValueOf(&c).Elem()) {
		n := l.Len()
		marked := reflect.MakeSlice(l.Type(), n+3, n+3)
		reflect.Copy(marked, l)
		for i := range 3 {
			stain(marked.Index(n + i))
		}
		l.Set(marked.Slice(0, n))
	}
	return c
}

// stain sets each number below x to another one, and leaves lists as they are.
func stain(x reflect.Value) {
	switch x.Kind() {
	case reflect.Struct:
		for i := range x.NumField() {
			stain(x.Field(i))
		}
	case reflect.Bool:
		x.SetBool(!x.Bool())
	case reflect.Slice:
	default:
		x.SetInt(-77 - x.Int())
	}
}

// spoil writes over each element of a list, and over its spare room.
func spoil(l reflect.Value) {
	room := l.Slice(0, l.Cap())
	for i := range room.Len() {
		stain(room.Index(i))
	}
}

// span is the memory of a list, with its spare room.
type span struct{ from, to uintptr }

func spans(things []any) []span {
	var all []span
	for _, x := range things {
		for _, l := range lists(reflect.ValueOf(x).Elem()) {
			if l.Cap() > 0 {
				all = append(all, span{l.Pointer(), l.Pointer() + uintptr(l.Cap())*l.Type().Elem().Size()})
			}
		}
	}
	return all
}

// unshared asks that no two lists of all these share any memory, and that what was handed in stays as it was.
func unshared(t *testing.T, what string, things []any, stays func() bool) {
	t.Helper()
	all := spans(things)
	slices.SortFunc(all, func(a, b span) int {
		if a.from < b.from {
			return -1
		}
		return 1
	})
	for i := 1; i < len(all); i++ {
		if all[i].from < all[i-1].to {
			t.Fatalf("memory: %s: two lists of what is handed in and answered share some", what)
		}
	}
	if !stays() {
		t.Fatalf("memory: %s changes what is handed in", what)
	}
}
