package strip

import "furlong/api"

const (
	mostGuarded = 60000 // below prime, so that no two places weigh alike
	prime       = 65521
	weightBytes = 2
	guardBytes  = weights * weightBytes
)

// The weights, as places in their array: the sum of the bytes, and the sum of each times its count.
const (
	plainSum = iota
	countedSum
	weights
)

// Guard: bytes with their weights. Mend: the bytes that were guarded, and where something was wrong.
func Guard(p []byte) ([]byte, api.Errno) {
	if len(p) > mostGuarded {
		return nil, api.ErrLong
	}
	b := copyWithRoom(p, guardBytes)
	for _, w := range weigh(p) {
		b = append(b, byte(w>>8), byte(w))
	}
	return b, api.OK
}

func Mend(b []byte) ([]byte, int, api.Errno) {
	if len(b) < guardBytes {
		return nil, 0, api.ErrShort
	}
	if len(b) > mostGuarded+guardBytes {
		return nil, 0, api.ErrLong
	}
	end := len(b) - guardBytes
	p := copyWithRoom(b[:end], 0)
	right, told := weigh(p), readWeights(b[end:])
	plainRight, countedRight := right[plainSum] == told[plainSum], right[countedSum] == told[countedSum]
	switch {
	case plainRight && countedRight:
		return p, -1, api.OK
	case countedRight:
		return p, end + plainSum*weightBytes, api.OK
	case plainRight:
		return p, end + countedSum*weightBytes, api.OK
	}
	at, mended := repair(p, above(right, told))
	if !mended {
		return nil, 0, api.ErrSum
	}
	return p, at, api.OK
}

func weigh(p []byte) [weights]int {
	var w [weights]int
	for i, x := range p {
		w[plainSum] += int(x)
		w[countedSum] += int(x) * (i + 1)
	}
	for i := range weights {
		w[i] %= prime
	}
	return w
}

// readWeights takes them as they stand: two bytes can tell more than prime - 1, and that is no byte string's weight.
func readWeights(b []byte) [weights]int {
	var w [weights]int
	for i := range weights {
		for j := range weightBytes {
			w[i] = w[i]<<8 | int(b[i*weightBytes+j])
		}
	}
	return w
}

// above is how much the told weights are above the right ones, modulo prime.
func above(right, told [weights]int) [weights]int {
	var gap [weights]int
	for i := range weights {
		gap[i] = (told[i] - right[i] + prime) % prime
	}
	return gap
}

// repair puts right the one byte of p that makes up for the gap, and tells its place, if there is one.
func repair(p []byte, gap [weights]int) (int, bool) {
	more := gap[plainSum]
	if more == 0 {
		return 0, false
	}
	for i, x := range p {
		if more*(i+1)%prime != gap[countedSum] {
			continue
		}
		for _, whole := range [...]int{int(x) + more, int(x) + more - prime} {
			if 0 <= whole && whole <= 255 {
				p[i] = byte(whole)
				return i, true
			}
		}
	}
	return 0, false
}
