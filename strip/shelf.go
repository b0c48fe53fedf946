package strip

const (
	plain   = 192 // a number below it is its own byte; from this byte on stand the heads of the shelves
	shelves = 8
)

// numbers is how many numbers the shelf k has, the plain ones taken for the shelf 0; the last shelf, whose count is outside 64 bits, is never asked about.
func numbers(k int) uint64 {
	if k == 0 {
		return plain
	}
	return 1 << (8 * k)
}

func begin(shelf int) uint64 {
	var at uint64
	for ahead := range shelf {
		at += numbers(ahead)
	}
	return at
}

// find tells the shelf of x, and how far x stands from its begin.
func find(x uint64) (int, uint64) {
	for shelf := range shelves {
		if x < numbers(shelf) {
			return shelf, x
		}
		x -= numbers(shelf)
	}
	return shelves, x
}

// appendNumber writes into the room of b, which is the caller's own.
func appendNumber(b []byte, x uint64) []byte {
	shelf, far := find(x)
	if shelf == 0 {
		return append(b, byte(far))
	}
	b = append(b, byte(plain+shelf-1))
	for i := range shelf {
		b = append(b, byte(far>>(8*(shelf-1-i))))
	}
	return b
}

// distance reads what stands behind the head of a number, and tells how many of the count bytes are missing.
func distance(b []byte, count int) (uint64, int) {
	var far uint64
	missing := count
behind:
	for _, x := range b {
		switch missing {
		case 0:
			break behind
		default:
			far = far<<8 | uint64(x)
			missing--
		}
	}
	return far, missing
}
