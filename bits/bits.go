// Package bits is layer 1: see shared/doc/01-bits.md.
package bits

const wordBits = 32

// The ends of what Up takes: within them no sum leaves an int.
const (
	maxUp    = 1 << 40
	maxAlign = 1 << 20
)

// Put answers the word's four bytes, the lowest first.
func Put(w uint32) [4]byte {
	return [4]byte{byte(w), byte(w >> 8), byte(w >> 16), byte(w >> 24)}
}

// Get answers the word of b's first four bytes; those that aren't there are 0.
func Get(b []byte) uint32 {
	var w uint32
	for k := range min(len(b), 4) {
		w |= uint32(b[k]) << (8 * k)
	}
	return w
}

// Fits tells whether x is a number in n bits.
func Fits(x, n int) bool {
	if !width(n) {
		return false
	}
	// A signed shift leaves copies of the sign alone, if x needs no more bits.
	high := x >> (n - 1)
	return high == 0 || high == -1
}

// Cut answers x's n lowest bits.
func Cut(x, n int) uint32 {
	if !width(n) {
		return 0
	}
	spare := wordBits - n
	return uint32(x) << spare >> spare
}

// Sign answers the number in n bits that stands in w's n lowest bits.
func Sign(w uint32, n int) int {
	if !width(n) {
		return 0
	}
	spare := wordBits - n
	// The way back is signed, so that the highest of the n bits fills those above it.
	return int(int32(w<<spare) >> spare)
}

// Signed answers the number that the whole word is.
func Signed(w uint32) int { return Sign(w, wordBits) }

// Up answers the least multiple of align that isn't below x; -1, if x or align is out of its range.
func Up(x, align int) int {
	if x < 0 || x > maxUp || align < 1 || align > maxAlign {
		return -1
	}
	top := x + align - 1
	return top - top%align
}

// width tells whether a number may have n bits.
func width(n int) bool { return n >= 1 && n <= wordBits }
