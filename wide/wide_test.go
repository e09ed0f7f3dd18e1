package wide

import (
	"math/big"
	"strings"
	"testing"

	"horarium/api"
)

const top = 1<<64 - 1

var (
	zero     = api.Wide{}
	greatest = api.Wide{Hi: top, Lo: top}
)

// words are those around which halves, carries and digits change, and some between that are the same in every run.
func words() []uint64 {
	l := []uint64{0, 1, 2, 3, 7, 9, 10, 11, 99, 100, 333333333, 1000000000}
	for _, bit := range []uint{31, 32, 33, 62, 63} {
		l = append(l, 1<<bit-1, 1<<bit, 1<<bit+1)
	}
	l = append(l, top-1, top)
	x := uint64(88172645463325252)
	for range 12 {
		x ^= x << 13
		x ^= x >> 7
		x ^= x << 17
		l = append(l, x, x>>32)
	}
	return l
}

func wides() []api.Wide {
	var l []api.Wide
	for _, hi := range words() {
		for _, lo := range words() {
			l = append(l, api.Wide{Hi: hi, Lo: lo})
		}
	}
	return l
}

// fewWides are wides enough to be taken in pairs.
func fewWides() []api.Wide {
	var l []api.Wide
	some := []uint64{0, 1, 2, 10, 1<<32 - 1, 1 << 32, 1<<63 - 1, 1 << 63, 1<<63 + 1, top - 1, top, 0x9e3779b97f4a7c15}
	for _, hi := range some {
		for _, lo := range some {
			l = append(l, api.Wide{Hi: hi, Lo: lo})
		}
	}
	return l
}

func bigOf(n uint64) *big.Int { return new(big.Int).SetUint64(n) }

func bigWide(a api.Wide) *big.Int {
	n := new(big.Int).Lsh(bigOf(a.Hi), 64)
	return n.Add(n, bigOf(a.Lo))
}

// held tells a number as a Wide, and whether 128 bits hold it.
func held(n *big.Int) (api.Wide, bool) {
	if n.Sign() < 0 || n.BitLen() > 128 {
		return zero, false
	}
	hi := new(big.Int).Rsh(n, 64)
	lo := new(big.Int).And(n, bigOf(top))
	return api.Wide{Hi: hi.Uint64(), Lo: lo.Uint64()}, true
}

func TestOfIsTheNumber(t *testing.T) { // P1.1
	for _, n := range words() {
		if got, want := Of(n), (api.Wide{Lo: n}); got != want {
			t.Errorf("Of(%d): %v, want %v", n, got, want)
		}
	}
}

func TestMulIsTheProduct(t *testing.T) { // P1.1
	for _, a := range words() {
		for _, b := range words() {
			want, _ := held(new(big.Int).Mul(bigOf(a), bigOf(b)))
			if got := Mul(a, b); got != want {
				t.Errorf("Mul(%d, %d): %v, want %v", a, b, got, want)
			}
		}
	}
}

func TestAddIsTheSumOrNothing(t *testing.T) { // P1.1, R2
	for _, a := range fewWides() {
		for _, b := range fewWides() {
			want, fits := held(new(big.Int).Add(bigWide(a), bigWide(b)))
			if got, ok := Add(a, b); got != want || ok != fits {
				t.Errorf("Add(%v, %v): %v %v, want %v %v", a, b, got, ok, want, fits)
			}
		}
	}
}

func TestAddAtTheEdgeOf128Bits(t *testing.T) { // P1.1
	cases := []struct {
		a, b, want api.Wide
		ok         bool
	}{
		{zero, zero, zero, true},
		{api.Wide{Lo: top}, Of(1), api.Wide{Hi: 1}, true},
		{greatest, zero, greatest, true},
		{greatest, Of(1), zero, false},
		{Of(1), greatest, zero, false},
		{greatest, greatest, zero, false},
		{api.Wide{Hi: top, Lo: top - 1}, Of(1), greatest, true},
		{api.Wide{Hi: 1 << 63}, api.Wide{Hi: 1 << 63}, zero, false},
		{api.Wide{Hi: 1 << 63, Lo: 5}, api.Wide{Hi: 1 << 63, Lo: 6}, zero, false},
		{api.Wide{Hi: 1<<63 - 1, Lo: top}, api.Wide{Hi: 1 << 63, Lo: 1}, zero, false},
		{api.Wide{Hi: 1<<63 - 1, Lo: top}, api.Wide{Hi: 1 << 63}, greatest, true},
	}
	for _, c := range cases {
		if got, ok := Add(c.a, c.b); got != c.want || ok != c.ok {
			t.Errorf("Add(%v, %v): %v %v, want %v %v", c.a, c.b, got, ok, c.want, c.ok)
		}
	}
}

func TestSubIsTheRestOrNothing(t *testing.T) { // P1.1, R2
	for _, a := range fewWides() {
		for _, b := range fewWides() {
			want, fits := held(new(big.Int).Sub(bigWide(a), bigWide(b)))
			if got, ok := Sub(a, b); got != want || ok != fits {
				t.Errorf("Sub(%v, %v): %v %v, want %v %v", a, b, got, ok, want, fits)
			}
		}
	}
}

func TestSubOfAGreaterOneIsNothing(t *testing.T) { // P1.1
	cases := []struct {
		a, b, want api.Wide
		ok         bool
	}{
		{zero, zero, zero, true},
		{greatest, greatest, zero, true},
		{api.Wide{Hi: 1}, Of(1), Of(top), true},
		{Of(1), Of(2), zero, false},
		{zero, greatest, zero, false},
		{Of(top), api.Wide{Hi: 1}, zero, false},
		{api.Wide{Hi: 5, Lo: 1}, api.Wide{Hi: 5, Lo: 2}, zero, false},
	}
	for _, c := range cases {
		if got, ok := Sub(c.a, c.b); got != c.want || ok != c.ok {
			t.Errorf("Sub(%v, %v): %v %v, want %v %v", c.a, c.b, got, ok, c.want, c.ok)
		}
	}
}

func TestCmpIsTheOrder(t *testing.T) { // P1.1
	for _, a := range fewWides() {
		for _, b := range fewWides() {
			want := bigWide(a).Cmp(bigWide(b))
			if got := Cmp(a, b); got != want {
				t.Errorf("Cmp(%v, %v): %d, want %d", a, b, got, want)
			}
		}
	}
}

func TestLessComparesFractions(t *testing.T) { // P1.2
	some := []uint64{0, 1, 2, 3, 4, 333333333, 1000000000, 1<<32 - 1, 1 << 32, 1 << 63, top - 1, top}
	for _, a := range some {
		for _, b := range some {
			for _, c := range some {
				for _, d := range some {
					left := new(big.Int).Mul(bigOf(a), bigOf(d))
					right := new(big.Int).Mul(bigOf(c), bigOf(b))
					want := b != 0 && d != 0 && left.Cmp(right) < 0
					if got := Less(a, b, c, d); got != want {
						t.Errorf("Less(%d, %d, %d, %d): %v, want %v", a, b, c, d, got, want)
					}
				}
			}
		}
	}
}

func TestLessAtItsEdges(t *testing.T) { // P1.2, the chapter's example
	cases := []struct {
		a, b, c, d uint64
		want       bool
	}{
		{1, 3, 333333333, 1000000000, false},
		{333333333, 1000000000, 1, 3, true},
		{1, 3, 1, 2, true},
		{1, 2, 2, 4, false},
		{top - 1, top, top, top, true},
		{top - 2, top - 1, top - 1, top, true},
		{top - 1, top, top - 2, top - 1, false},
		{0, 0, 1, 1, false},
		{1, 0, 2, 0, false},
		{1, 1, 2, 0, false},
		{0, 1, 1, 0, false},
		{0, 0, 0, 0, false},
		{1, 0, 1, 1, false},
	}
	for _, c := range cases {
		if got := Less(c.a, c.b, c.c, c.d); got != c.want {
			t.Errorf("Less(%d, %d, %d, %d): %v, want %v", c.a, c.b, c.c, c.d, got, c.want)
		}
	}
}

func TestDivIsTheWholePartAndWhatIsLeft(t *testing.T) { // P1.2
	for _, a := range wides() {
		for _, d := range words() {
			q, r, ok := Div(a, d)
			if d == 0 {
				if q != zero || r != 0 || ok {
					t.Errorf("Div(%v, 0): %v %d %v, want nothing", a, q, r, ok)
				}
				continue
			}
			whole, left := new(big.Int).QuoRem(bigWide(a), bigOf(d), new(big.Int))
			want, _ := held(whole)
			if q != want || r != left.Uint64() || !ok {
				t.Errorf("Div(%v, %d): %v %d %v, want %v %d true", a, d, q, r, ok, want, left)
			}
		}
	}
}

func TestTextIsTheDecimalDigits(t *testing.T) { // P1.3
	for _, a := range wides() {
		if got, want := Text(a), bigWide(a).String(); got != want {
			t.Errorf("Text(%v): %q, want %q", a, got, want)
		}
	}
}

func TestTextAtEachLength(t *testing.T) { // P1.3
	n := Of(1)
	for length := 1; length <= maxDigits; length++ {
		if got, want := Text(n), "1"+strings.Repeat("0", length-1); got != want {
			t.Errorf("Text of 10^%d: %q, want %q", length-1, got, want)
		}
		below, _ := Sub(n, Of(1))
		want := strings.Repeat("9", length-1)
		if length == 1 {
			want = "0"
		}
		if got := Text(below); got != want {
			t.Errorf("Text of 10^%d - 1: %q, want %q", length-1, got, want)
		}
		n, _ = held(new(big.Int).Mul(bigWide(n), big.NewInt(10)))
	}
}

func TestTextOfTheExamples(t *testing.T) { // P1.3, the chapter's example
	cases := []struct {
		a    api.Wide
		want string
	}{
		{zero, "0"},
		{Of(10), "10"},
		{Of(top), "18446744073709551615"},
		{api.Wide{Hi: 1}, "18446744073709551616"},
		{Mul(top, top), "340282366920938463426481119284349108225"},
		{greatest, "340282366920938463463374607431768211455"},
	}
	for _, c := range cases {
		if got := Text(c.a); got != c.want {
			t.Errorf("Text(%v): %q, want %q", c.a, got, c.want)
		}
	}
}

func TestWhatWasAddedIsTakenAwayAgain(t *testing.T) { // P1.4
	for _, a := range fewWides() {
		for _, b := range fewWides() {
			sum, ok := Add(a, b)
			if !ok {
				continue
			}
			if back, ok := Sub(sum, b); back != a || !ok {
				t.Errorf("%v and %v, less the second: %v %v", a, b, back, ok)
			}
			if back, ok := Sub(sum, a); back != b || !ok {
				t.Errorf("%v and %v, less the first: %v %v", a, b, back, ok)
			}
		}
	}
}

func TestWhatWasMultipliedIsDividedAgain(t *testing.T) { // P1.4
	for _, a := range words() {
		for _, b := range words() {
			if b == 0 {
				continue
			}
			q, r, ok := Div(Mul(a, b), b)
			if q != Of(a) || r != 0 || !ok {
				t.Errorf("%d times %d, by the second: %v %d %v", a, b, q, r, ok)
			}
		}
	}
}

func TestTheSameCallsHaveTheSameAnswers(t *testing.T) { // R4
	for _, a := range fewWides() {
		first := Text(a)
		Text(greatest)
		if again := Text(a); again != first {
			t.Errorf("Text(%v): %q, then %q", a, first, again)
		}
	}
}
