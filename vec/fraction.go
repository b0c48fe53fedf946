package vec

import (
	"cmp"

	"furlong/api"
	"furlong/num"
)

// fraction is not reduced, because shares are told as they stand; 1/0 is above all others.
type fraction struct {
	over, under int64
}

func share(part, whole int64) fraction {
	switch {
	case whole > 0:
		return fraction{over: part, under: whole}
	case part > 0:
		return fraction{over: 1, under: 0}
	}
	return fraction{over: 0, under: 1}
}

func dominant(use, total api.Vec) fraction {
	greatest := fraction{over: -1, under: 1} // below every share, so that the first one takes its place
	for part, whole := range pairs(use, total) {
		if f := share(part, whole); f.compare(greatest) > 0 {
			greatest = f
		}
	}
	return greatest
}

// divide stays exact: MaxRes times MaxWeight is within int64.
func (f fraction) divide(weight int64) fraction {
	return fraction{over: f.over, under: f.under * weight}
}

func (f fraction) compare(g fraction) int {
	if f.under == 0 || g.under == 0 {
		return cmp.Compare(g.under, f.under) // the one over nought is the greater one
	}
	order, _ := num.Cmp(f.over, f.under, g.over, g.under) // neither is below 1 here, so there is no error
	return order
}
