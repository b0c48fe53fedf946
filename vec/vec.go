// Package vec is layer 2: see shared/doc/02-vec.md.
package vec

import (
	"iter"

	"furlong/api"
)

// Check: is v an amount?
func Check(v api.Vec) api.Errno {
	for x := range parts(v) {
		if x < 0 || x > api.MaxRes {
			return api.ErrArg
		}
	}
	return api.OK
}

// Add, Sub: of amounts.
func Add(a, b api.Vec) (api.Vec, api.Errno) {
	if !amounts(a, b) {
		return api.Vec{}, api.ErrArg
	}
	return inRange(api.Vec{CPU: a.CPU + b.CPU, Mem: a.Mem + b.Mem})
}

func Sub(a, b api.Vec) (api.Vec, api.Errno) {
	if !amounts(a, b) {
		return api.Vec{}, api.ErrArg
	}
	return inRange(api.Vec{CPU: a.CPU - b.CPU, Mem: a.Mem - b.Mem})
}

// Fits: is a at most b?
func Fits(a, b api.Vec) bool {
	for x, y := range pairs(a, b) {
		if x > y {
			return false
		}
	}
	return true
}

// Share: the dominant share of an amount, as a fraction.
func Share(use, total api.Vec) (int64, int64, api.Errno) {
	if !amounts(use, total) {
		return 0, 0, api.ErrArg
	}
	f := dominant(use, total)
	return f.over, f.under, api.OK
}

// Less: the weighted dominant share of a against that of b: -1, 0, 1.
func Less(a api.Vec, wa int64, b api.Vec, wb int64, total api.Vec) (int, api.Errno) {
	if !amounts(a, b, total) || !weights(wa, wb) {
		return 0, api.ErrArg
	}
	return dominant(a, total).divide(wa).compare(dominant(b, total).divide(wb)), api.OK
}

// parts yields the parts of an amount, one behind the other.
func parts(v api.Vec) iter.Seq[int64] {
	return func(yield func(int64) bool) {
		if yield(v.CPU) {
			yield(v.Mem)
		}
	}
}

// pairs yields the parts of two amounts side by side.
func pairs(a, b api.Vec) iter.Seq2[int64, int64] {
	return func(yield func(int64, int64) bool) {
		if yield(a.CPU, b.CPU) {
			yield(a.Mem, b.Mem)
		}
	}
}

func amounts(l ...api.Vec) bool {
	for _, v := range l {
		if Check(v) != api.OK {
			return false
		}
	}
	return true
}

func weights(l ...int64) bool {
	for _, w := range l {
		if w < 1 || w > api.MaxWeight {
			return false
		}
	}
	return true
}

// inRange answers what was reckoned from amounts; such a result can't wrap round, so Check sees whether it left the range.
func inRange(v api.Vec) (api.Vec, api.Errno) {
	if Check(v) != api.OK {
		return api.Vec{}, api.ErrOver
	}
	return v, api.OK
}
