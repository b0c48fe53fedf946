package num

import (
	"cmp"
	"math/bits"

	"furlong/api"
)

// limit is the size of the least int64; that of the greatest one is 1 less.
const limit = 1 << 63

// wide is a whole number of 128 bits, from 0 on: room for each product of two int64 and for the sum of each list.
type wide struct {
	high, low uint64
}

func (w wide) plus(x uint64) wide {
	low, carry := bits.Add64(w.low, x, 0)
	return wide{high: w.high + carry, low: low}
}

// minus takes a v that is at most w.
func (w wide) minus(v wide) wide {
	low, borrow := bits.Sub64(w.low, v.low, 0)
	return wide{high: w.high - v.high - borrow, low: low}
}

func (w wide) compare(v wide) int {
	if w.high != v.high {
		return cmp.Compare(w.high, v.high)
	}
	return cmp.Compare(w.low, v.low)
}

// signed is a wide number on either side of nought; nought itself is never negative, so that equal numbers are told alike.
type signed struct {
	negative bool
	size     wide
}

func multiply(a, b int64) signed {
	high, low := bits.Mul64(size(a), size(b))
	apart := (a < 0) != (b < 0)
	return signed{negative: apart && a != 0 && b != 0, size: wide{high: high, low: low}}
}

func difference(w, v wide) signed {
	if w.compare(v) < 0 {
		return signed{negative: true, size: v.minus(w)}
	}
	return signed{size: w.minus(v)}
}

func (s signed) compare(t signed) int {
	switch {
	case s.negative && t.negative:
		return t.size.compare(s.size)
	case s.negative:
		return -1
	case t.negative:
		return 1
	}
	return s.size.compare(t.size)
}

func (s signed) narrow() (int64, api.Errno) {
	most := uint64(limit - 1)
	if s.negative {
		most = limit
	}
	if s.size.high != 0 || s.size.low > most {
		return 0, api.ErrOver
	}
	if s.negative {
		return int64(-s.size.low), api.OK
	}
	return int64(s.size.low), api.OK
}

// size is x without its sign; unlike an int64 it can tell that of the least int64.
func size(x int64) uint64 {
	if x < 0 {
		return -uint64(x)
	}
	return uint64(x)
}
