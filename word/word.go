// Package word is layer 1: see shared/doc/01-word.md.
package word

// Get tells the number of eight bytes: P1.1.
func Get(b []byte, at uint64) (uint64, bool) {
	if !has(b, at, 8) {
		return 0, false
	}
	return number(b[at : at+8]), true
}

// Put tells a number's eight bytes: P1.1.
func Put(v uint64) []byte {
	return lowest(v, 8)
}

// Get4 tells the number of four bytes: P1.1.
func Get4(b []byte, at uint64) (uint32, bool) {
	if !has(b, at, 4) {
		return 0, false
	}
	return uint32(number(b[at : at+4])), true
}

// Put4 tells a number's four bytes: P1.1.
func Put4(v uint32) []byte {
	return lowest(uint64(v), 4)
}

// has tells whether b has n bytes from at on. It takes from b's length, and
// never adds to at, since at + n may wrap round to a small number.
func has(b []byte, at, n uint64) bool {
	size := uint64(len(b))
	return size >= n && at <= size-n
}

// number tells the number whose bytes b is; b has at most eight.
func number(b []byte) uint64 {
	v := uint64(0)
	for i, x := range b {
		v |= uint64(x) << (8 * i)
	}
	return v
}

// lowest tells the n lowest bytes of v, in memory of their own.
func lowest(v uint64, n int) []byte {
	b := make([]byte, n)
	for i := range b {
		b[i] = byte(v >> (8 * i))
	}
	return b
}
