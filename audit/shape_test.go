package audit_test

import "reflect"

// same takes nil and empty lists for alike.
func same[T any](a, b T) bool {
	return reflect.DeepEqual(tidied(a), tidied(b))
}

// tidied is a deep copy, in which no list is empty.
func tidied[T any](x T) T {
	return copied(x, func(l reflect.Value) reflect.Value { return l })
}

// whole is a deep copy, in which the spare room of each list is a part of it.
func whole[T any](x T) T {
	return copied(x, func(l reflect.Value) reflect.Value { return l.Slice(0, l.Cap()) })
}

func copied[T any](x T, part func(reflect.Value) reflect.Value) T {
	c := reflect.New(reflect.TypeFor[T]()).Elem()
	copyInto(c, reflect.ValueOf(x), part)
	return c.Interface().(T)
}

func copyInto(to, from reflect.Value, part func(reflect.Value) reflect.Value) {
	switch from.Kind() {
	case reflect.Struct:
		for i := range from.NumField() {
			copyInto(to.Field(i), from.Field(i), part)
		}
	case reflect.Slice:
		l := part(from)
		if l.Len() == 0 {
			return
		}
		to.Set(reflect.MakeSlice(l.Type(), l.Len(), l.Len()))
		for i := range l.Len() {
			copyInto(to.Index(i), l.Index(i), part)
		}
	default:
		to.Set(from)
	}
}

// roomy is a deep copy in which each list has spare room, with marks in it.
func roomy[T any](x T) T {
	c := tidied(x)
	addRoom(reflect.ValueOf(&c).Elem())
	return c
}

func addRoom(x reflect.Value) {
	switch x.Kind() {
	case reflect.Struct:
		for i := range x.NumField() {
			addRoom(x.Field(i))
		}
	case reflect.Slice:
		n := x.Len()
		marked := reflect.MakeSlice(x.Type(), n+3, n+3)
		reflect.Copy(marked, x)
		for i := range n + 3 {
			if i < n {
				addRoom(marked.Index(i))
			} else {
				stain(marked.Index(i))
			}
		}
		x.Set(marked.Slice(0, n))
	}
}

// stain sets each number below x to another one, and leaves lists as they are.
func stain(x reflect.Value) {
	switch x.Kind() {
	case reflect.Struct:
		for i := range x.NumField() {
			stain(x.Field(i))
		}
	case reflect.Bool:
		x.SetBool(!x.Bool())
	case reflect.Slice:
	default:
		x.SetInt(-77 - x.Int())
	}
}
