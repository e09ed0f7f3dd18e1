package samples

import (
	"math"
	"slices"
	"strings"
)

// Worded are numbers as bytes, as chapter 3's words tell it: of each how many bytes it needs, and these.
func Worded(numbers ...uint64) string {
	var l []byte
	for _, n := range numbers {
		var digits []byte
		for ; n > 0; n /= 256 {
			digits = append(digits, byte(n%256))
		}
		slices.Reverse(digits)
		l = append(append(l, byte(len(digits))), digits...)
	}
	return string(l)
}

// Parted are the numbers of which s is made, each in as few bytes as it needs; false if it is not made of such.
func Parted(s string) ([]uint64, bool) {
	var l []uint64
	for s != "" {
		size := int(s[0])
		if size > 8 || size >= len(s) || size > 0 && s[1] == 0 {
			return nil, false
		}
		n := uint64(0)
		for i := 1; i <= size; i++ {
			n = n*256 + uint64(s[i])
		}
		l, s = append(l, n), s[1+size:]
	}
	return l, true
}

// Turned goes over all texts that differ from s in one byte.
func Turned(s string) func(yield func(s string) bool) {
	return func(yield func(s string) bool) {
		for at := range len(s) {
			for turn := 1; turn < 256; turn++ {
				b := []byte(s)
				b[at] ^= byte(turn)
				if !yield(string(b)) {
					return
				}
			}
		}
	}
}

// Replaced are the bytes of numbers, of which one at each place is another: one at a bound, or beyond it.
func Replaced(numbers []uint64) []string {
	bounds := []uint64{0, 1, 2, 3, 4, 15, 16, 17, 1023, 1024, 1025, 1<<31 - 1, 1 << 31, 1<<31 + 1, 1 << 32, 1<<32 + 1, math.MaxInt64, 1 << 63, 1<<63 + 1, math.MaxUint64}
	var l []string
	for at := range numbers {
		for _, n := range bounds {
			l = append(l, Worded(numbers[:at]...)+Worded(n)+Worded(numbers[at+1:]...))
		}
	}
	return l
}

// Padded are the bytes of numbers, of which one at each place has more than it needs.
func Padded(numbers []uint64) []string {
	var l []string
	for at, n := range numbers {
		short := Worded(n)
		for more := 1; int(short[0])+more <= 9; more++ {
			long := string([]byte{short[0] + byte(more)}) + strings.Repeat("\x00", more) + short[1:]
			l = append(l, Worded(numbers[:at]...)+long+Worded(numbers[at+1:]...))
		}
	}
	return l
}

// NoFlags are bytes that are no flag: of other numbers, of none, and of more than one.
func NoFlags() []string {
	l := []string{"", "\x01", "\x01\x00", "\x02\x00\x01", "\x02\x01", "\x09", "\xff", "\x00\x00", "\x01\x01\x00"}
	for _, n := range []uint64{2, 3, 127, 128, 255, 256, 257, 1 << 32, 1<<32 + 1, 1 << 63, math.MaxUint64} {
		l = append(l, Worded(n))
	}
	return l
}

// Short are all texts of 1 to most bytes that are made of these.
func Short(most int, bytes ...byte) []string {
	var l []string
	last := []string{""}
	for range most {
		var longer []string
		for _, s := range last {
			for _, b := range bytes {
				longer = append(longer, s+string([]byte{b}))
			}
		}
		l, last = append(l, longer...), longer
	}
	return l
}
