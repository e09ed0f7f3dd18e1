// Package wide is layer 1: numbers of 128 bits, and fractions compared exactly.
package wide

import "horarium/api"

// maxDigits is how many decimal digits the greatest number, 2^128 - 1, has.
const maxDigits = 39

// Of is n as a Wide.
func Of(n uint64) api.Wide {
	return api.Wide{Lo: n}
}

// Mul is the product of a and b, which 128 bits always hold.
func Mul(a, b uint64) api.Wide {
	const half = 1<<32 - 1
	aHi, aLo := a>>32, a&half
	bHi, bLo := b>>32, b&half
	// A product of halves is at most (2^32-1)^2, so each sum below has room for one more half.
	mid := aHi*bLo + aLo*bLo>>32
	cross := aLo*bHi + mid&half
	return api.Wide{Hi: aHi*bHi + mid>>32 + cross>>32, Lo: a * b}
}

// Add is the sum of a and b; false if it needs more than 128 bits.
func Add(a, b api.Wide) (api.Wide, bool) {
	lo := a.Lo + b.Lo
	hi := a.Hi + b.Hi
	over := hi < a.Hi
	if lo < a.Lo {
		hi++
		over = over || hi == 0
	}
	if over {
		return api.Wide{}, false
	}
	return api.Wide{Hi: hi, Lo: lo}, true
}

// Sub is a less b; false if b is greater.
func Sub(a, b api.Wide) (api.Wide, bool) {
	if Cmp(a, b) < 0 {
		return api.Wide{}, false
	}
	hi := a.Hi - b.Hi
	if a.Lo < b.Lo {
		hi--
	}
	return api.Wide{Hi: hi, Lo: a.Lo - b.Lo}, true
}

// Cmp is -1, 0 or 1, as a is less than b, the same, or greater.
func Cmp(a, b api.Wide) int {
	switch {
	case a.Hi < b.Hi, a.Hi == b.Hi && a.Lo < b.Lo:
		return -1
	case a == b:
		return 0
	}
	return 1
}

// Less tells whether a by b is less than c by d; a fraction by 0 has no place in the order, so the answer is no.
func Less(a, b, c, d uint64) bool {
	if b == 0 || d == 0 {
		return false
	}
	return Cmp(Mul(a, d), Mul(c, b)) < 0
}

// Div is the whole part of a by d, and what is left; false if d is 0.
func Div(a api.Wide, d uint64) (q api.Wide, r uint64, ok bool) {
	if d == 0 {
		return api.Wide{}, 0, false
	}
	q.Hi, r = a.Hi/d, a.Hi%d
	for i := 63; i >= 0; i-- {
		// Shifted, what is left may need a 65th bit; it is below 2d all the same, so taking d away once is enough.
		wraps := r>>63 == 1
		r = r<<1 | a.Lo>>i&1
		if wraps || r >= d {
			r -= d
			q.Lo |= 1 << i
		}
	}
	return q, r, true
}

// Text is a's decimal digits, without a 0 ahead.
func Text(a api.Wide) string {
	last := func() byte {
		q, r, _ := Div(a, 10)
		a = q
		return byte('0' + r)
	}
	var digits [maxDigits]byte
	at := maxDigits
tell:
	for at > 0 {
		at--
		digits[at] = last()
		// Asked behind the first digit, so that 0 has one too.
		if a == Of(0) {
			break tell
		}
	}
	return string(digits[at:])
}
