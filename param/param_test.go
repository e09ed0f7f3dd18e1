package param

import (
	"math"
	"math/big"
	"slices"
	"testing"

	"horarium/api"
	"horarium/samples"
)

// of is a task that is in all modes, with its deadline at its period.
func of(id int, c, t int64) api.Task {
	return api.Task{ID: id, C: c, D: t, T: t, Modes: 15}
}

// named are tasks of these C and T, two by two, with IDs from 0 on.
func named(numbers ...int64) []api.Task {
	var l []api.Task
	for i := 0; i < len(numbers); i += 2 {
		l = append(l, of(i/2, numbers[i], numbers[i+1]))
	}
	return l
}

// lasting are tasks of C 1 and these T.
func lasting(periods ...int64) []api.Task {
	var l []api.Task
	for i, t := range periods {
		l = append(l, of(i, 1, t))
	}
	return l
}

// edges are tasks of all numbers around the edges, most of which may not be.
func edges() []api.Task {
	numbers := []int64{math.MinInt64, -1, 0, 1, 2, 3, 1<<31 - 1, 1 << 31, 1<<31 + 1, 1 << 32, math.MaxInt64}
	var l []api.Task
	for _, id := range []int{math.MinInt, -1, 0, 1, 1023, 1024, math.MaxInt} {
		for _, modes := range []int{math.MinInt, -1, 0, 1, 15, 16, math.MaxInt} {
			for _, c := range numbers {
				for _, d := range numbers {
					for _, t := range numbers {
						l = append(l, api.Task{ID: id, C: c, D: d, T: t, Modes: modes})
					}
				}
			}
		}
	}
	return l
}

// mayBe tells it as the chapter's words do, number by number.
func mayBe(t api.Task) bool {
	if t.ID < 0 || t.ID > 1023 || t.Modes < 1 || t.Modes > 15 {
		return false
	}
	if t.C < 1 || t.D < t.C || t.T < t.D {
		return false
	}
	return t.T <= 2147483648
}

// primes are the greatest so many at most at 2^31.
func primes(n int) []int64 {
	var l []int64
	for x := int64(1<<31 - 1); len(l) < n; x -= 2 {
		if big.NewInt(x).ProbablyPrime(0) {
			l = append(l, x)
		}
	}
	return l
}

// rows are rows of tasks that may be: those of the edges, and many that look drawn by chance, of periods that mostly share a small multiple.
func rows() [][]api.Task {
	l := [][]api.Task{nil, {}, named(1, 4, 1, 6), lasting(1), lasting(1 << 20), lasting(1<<20 + 1), lasting(1 << 31), samples.Same(16, of(3, 1<<20, 1<<20)), samples.Same(16, of(3, 1<<31, 1<<31))}
	periods := [][]int64{
		{1, 2, 3, 4, 5, 6, 8, 10, 12, 15, 20, 24, 30, 40, 60, 120},
		{1, 2, 4, 16, 256, 1 << 10, 1 << 19, 1 << 20},
		{3, 5, 7, 11, 13, 17, 19, 23, 1 << 10},
		{720720, 5040, 16, 9, 65520, 1001, 360360, 77},
		{1 << 31, 1<<31 - 1, 1 << 20, 1<<20 - 1, 1, 2, 1 << 30},
	}
	draw := samples.Drawing(1)
	for i := range 4000 {
		some := periods[i%len(periods)]
		var row []api.Task
		for range draw(17) {
			t := some[draw(int64(len(some)))]
			c := 1 + draw(t)
			row = append(row, api.Task{ID: int(draw(1024)), C: c, D: c + draw(t-c+1), T: t, Modes: 1 + int(draw(15))})
		}
		l = append(l, row)
	}
	return l
}

// multiple is the least common one of all T, however great, by the library's numbers.
func multiple(l []api.Task) *big.Int {
	n := big.NewInt(1)
	for _, t := range l {
		shared := new(big.Int).GCD(nil, nil, n, big.NewInt(t.T))
		n.Mul(n, new(big.Int).Quo(big.NewInt(t.T), shared))
	}
	return n
}

// share is C by T.
func share(t api.Task) *big.Rat {
	return big.NewRat(t.C, t.T)
}

// shares is the sum of all C by T.
func shares(l []api.Task) *big.Rat {
	sum := new(big.Rat)
	for _, t := range l {
		sum.Add(sum, share(t))
	}
	return sum
}

// ahead tells whether a goes ahead of b, both of which may be.
func ahead(a, b api.Task) bool {
	switch share(a).Cmp(share(b)) {
	case 1:
		return true
	case 0:
		return a.ID < b.ID
	}
	return false
}

// isRefused looks at what Period, Load and Over tell of tasks for which there is an error.
func isRefused(t *testing.T, l []api.Task, want api.Errno) {
	t.Helper()
	if n, err := Period(l); n != 0 || err != want {
		t.Errorf("Period(%v): %d, error %d, want 0, %d", l, n, err, want)
	}
	if n, p, err := Load(l); n != 0 || p != 0 || err != want {
		t.Errorf("Load(%v): %d %d, error %d, want 0, 0, %d", l, n, p, err, want)
	}
	if over, err := Over(l); over || err != want {
		t.Errorf("Over(%v): %v, error %d, want false, %d", l, over, err, want)
	}
}

func TestCheckAtTheBoundsOfEachNumber(t *testing.T) { // P9.1
	cases := []struct {
		t    api.Task
		want bool
	}{
		{api.Task{ID: 0, C: 1, D: 2, T: 3, Modes: 1}, true},
		{api.Task{ID: 1023, C: 1, D: 2, T: 3, Modes: 1}, true},
		{api.Task{ID: -1, C: 1, D: 2, T: 3, Modes: 1}, false},
		{api.Task{ID: 1024, C: 1, D: 2, T: 3, Modes: 1}, false},
		{api.Task{ID: math.MinInt, C: 1, D: 2, T: 3, Modes: 1}, false},
		{api.Task{ID: math.MaxInt, C: 1, D: 2, T: 3, Modes: 1}, false},

		{api.Task{ID: 7, C: 1, D: 1, T: 1, Modes: 1}, true},
		{api.Task{ID: 7, C: 0, D: 1, T: 1, Modes: 1}, false},
		{api.Task{ID: 7, C: -1, D: 1, T: 1, Modes: 1}, false},
		{api.Task{ID: 7, C: math.MinInt64, D: 1, T: 1, Modes: 1}, false},
		{api.Task{ID: 7, C: 1 << 31, D: 1 << 31, T: 1 << 31, Modes: 1}, true},
		{api.Task{ID: 7, C: 1<<31 + 1, D: 1 << 31, T: 1 << 31, Modes: 1}, false},
		{api.Task{ID: 7, C: math.MaxInt64, D: 1 << 31, T: 1 << 31, Modes: 1}, false},

		{api.Task{ID: 7, C: 5, D: 5, T: 9, Modes: 1}, true},
		{api.Task{ID: 7, C: 5, D: 4, T: 9, Modes: 1}, false},
		{api.Task{ID: 7, C: 5, D: 0, T: 9, Modes: 1}, false},
		{api.Task{ID: 7, C: 5, D: math.MinInt64, T: 9, Modes: 1}, false},
		{api.Task{ID: 7, C: 5, D: 9, T: 9, Modes: 1}, true},
		{api.Task{ID: 7, C: 5, D: 10, T: 9, Modes: 1}, false},
		{api.Task{ID: 7, C: 5, D: math.MaxInt64, T: 9, Modes: 1}, false},
		{api.Task{ID: 7, C: 6, D: 5, T: 9, Modes: 1}, false},
		{api.Task{ID: 7, C: 9, D: 9, T: 8, Modes: 1}, false},
		{api.Task{ID: 7, C: 9, D: 5, T: 8, Modes: 1}, false},

		{api.Task{ID: 7, C: 1, D: 1, T: 1 << 31, Modes: 1}, true},
		{api.Task{ID: 7, C: 1, D: 1, T: 1<<31 + 1, Modes: 1}, false},
		{api.Task{ID: 7, C: 1<<31 + 1, D: 1<<31 + 1, T: 1<<31 + 1, Modes: 1}, false},
		{api.Task{ID: 7, C: 1, D: 1, T: 1<<32 + 1, Modes: 1}, false},
		{api.Task{ID: 7, C: 1, D: 1, T: math.MaxInt64, Modes: 1}, false},
		{api.Task{ID: 7, C: 1, D: 1, T: 0, Modes: 1}, false},
		{api.Task{ID: 7, C: 1, D: 1, T: math.MinInt64, Modes: 1}, false},
		{api.Task{ID: 7, C: 0, D: 0, T: 0, Modes: 1}, false},

		{api.Task{ID: 7, C: 1, D: 2, T: 3, Modes: 15}, true},
		{api.Task{ID: 7, C: 1, D: 2, T: 3, Modes: 8}, true},
		{api.Task{ID: 7, C: 1, D: 2, T: 3, Modes: 16}, false},
		{api.Task{ID: 7, C: 1, D: 2, T: 3, Modes: 17}, false},
		{api.Task{ID: 7, C: 1, D: 2, T: 3, Modes: 0}, false},
		{api.Task{ID: 7, C: 1, D: 2, T: 3, Modes: -1}, false},
		{api.Task{ID: 7, C: 1, D: 2, T: 3, Modes: math.MinInt}, false},
		{api.Task{ID: 7, C: 1, D: 2, T: 3, Modes: math.MaxInt}, false},
	}
	for _, c := range cases {
		if got := Check(c.t); got != c.want {
			t.Errorf("Check(%+v): %v, want %v", c.t, got, c.want)
		}
	}
}

func TestCheckIsAsTheWordsTellIt(t *testing.T) { // P9.1
	for _, x := range edges() {
		if got, want := Check(x), mayBe(x); got != want {
			t.Errorf("Check(%+v): %v, want %v", x, got, want)
		}
	}
	for modes := -20; modes < 40; modes++ {
		x := api.Task{ID: 1, C: 1, D: 2, T: 3, Modes: modes}
		if got, want := Check(x), mayBe(x); got != want {
			t.Errorf("Check(%+v): %v, want %v", x, got, want)
		}
	}
}

func TestRowOfAsManyAsMayBe(t *testing.T) { // P9.1, R1, R5
	for _, n := range []int{0, 1, 2, 15, 16, 17, 18, 32, 255, 256, 1 << 16, 1 << 20} {
		if got, want := Row(samples.Same(n, of(5, 1, 1<<31))), n <= 16; got != want {
			t.Errorf("Row of %d tasks: %v, want %v", n, got, want)
		}
	}
	if !Row(nil) || !Row([]api.Task{}) {
		t.Error("Row of no task: no")
	}
}

func TestRowOfOneThatMayNotBe(t *testing.T) { // P9.1
	for _, bad := range samples.Wrong() {
		for _, n := range []int{1, 2, 3, 16, 17} {
			for at := range n {
				l := samples.Same(n, of(5, 1, 2))
				l[at] = bad
				if Row(l) {
					t.Errorf("Row of %d tasks with %+v at %d: yes", n, bad, at)
				}
			}
		}
	}
}

func TestRowOfTheSameIDTwice(t *testing.T) { // P9.1
	if l := []api.Task{of(4, 1, 2), of(4, 1, 3)}; !Row(l) {
		t.Errorf("Row(%+v): no", l)
	}
	if l := []api.Task{of(4, 1, 2), of(5, 1, 2), of(4, 1, 2)}; !Row(l) {
		t.Errorf("Row(%+v): no", l)
	}
}

func TestGcdAtItsEdges(t *testing.T) { // P9.1
	const most = math.MaxInt64
	cases := []struct{ a, b, want int64 }{
		{0, 0, 0},
		{0, 1, 1}, {0, 12, 12}, {0, -12, 12}, {12, 0, 12}, {-12, 0, 12}, {0, most, most}, {0, -most, most}, {most, 0, most}, {-most, 0, most},
		{7, 7, 7}, {7, -7, 7}, {-7, 7, 7}, {-7, -7, 7}, {most, most, most}, {-most, -most, most}, {most, -most, most},
		{1, 1, 1}, {1, 9, 1}, {9, 1, 1}, {-1, 9, 1}, {9, -1, 1},
		{8, 9, 1}, {9, 8, 1}, {35, 64, 1}, {-35, 64, 1}, {1<<31 - 1, 1 << 31, 1}, {most, most - 1, 1},
		{-12, 18, 6}, {12, -18, 6}, {-12, -18, 6}, {12, 18, 6}, {18, 12, 6},
		{4, 12, 4}, {12, 4, 4},
		{1 << 62, 1 << 40, 1 << 40}, {1 << 62, -(1 << 62), 1 << 62}, {most, 7, 7}, {most, 49, 49}, {7540113804746346429, 4660046610375530309, 1},
	}
	for _, c := range cases {
		if got := Gcd(c.a, c.b); got != c.want {
			t.Errorf("Gcd(%d, %d): %d, want %d", c.a, c.b, got, c.want)
		}
	}
}

func TestGcdIsTheGreatestDivisor(t *testing.T) { // P9.1
	numbers := []int64{0, 1, 2, 3, 4, 6, 9, 12, 30, 97, 210, 1 << 20, 1<<31 - 1, 1 << 31, 1<<31 + 1, 1 << 62, math.MaxInt64 - 1, math.MaxInt64}
	draw := samples.Drawing(2)
	for range 60 {
		numbers = append(numbers, draw(1000), draw(1<<31), draw(math.MaxInt64))
	}
	for _, a := range numbers {
		for _, b := range numbers {
			want := new(big.Int).GCD(nil, nil, big.NewInt(a), big.NewInt(b)).Int64()
			for _, x := range [][2]int64{{a, b}, {-a, b}, {a, -b}, {-a, -b}} {
				if got := Gcd(x[0], x[1]); got != want {
					t.Errorf("Gcd(%d, %d): %d, want %d", x[0], x[1], got, want)
				}
			}
		}
	}
}

func TestGcdOfTheLeastNumberEnds(t *testing.T) { // P9.1, P1
	const least = math.MinInt64
	for _, n := range []int64{least, least + 1, -1 << 62, -3, -2, -1, 0, 1, 2, 3, 1 << 31, 1 << 62, math.MaxInt64 - 1, math.MaxInt64} {
		if Gcd(least, n) != Gcd(least, n) || Gcd(n, least) != Gcd(n, least) {
			t.Errorf("Gcd of the least number and %d: now this, now that", n)
		}
	}
}

func TestPeriodAtItsEdges(t *testing.T) { // P9.1
	cases := []struct {
		periods []int64
		want    int64
	}{
		{nil, 1},
		{[]int64{1}, 1}, {[]int64{7}, 7}, {[]int64{1 << 20}, 1 << 20}, {[]int64{1<<20 - 1}, 1<<20 - 1},
		{[]int64{1, 1, 1}, 1}, {[]int64{5, 5}, 5}, {[]int64{1 << 20, 1 << 20, 1 << 20}, 1 << 20},
		{[]int64{2, 4, 8, 16}, 16}, {[]int64{16, 8, 4, 2}, 16}, {[]int64{3, 12, 6}, 12}, {[]int64{1, 1 << 20, 1 << 10}, 1 << 20},
		{[]int64{3, 4, 5}, 60}, {[]int64{1 << 10, 1 << 9, 3 * 5 * 7 * 9}, 945 << 10}, {[]int64{1023, 1025}, 1023 * 1025},
		{[]int64{4, 6}, 12}, {[]int64{6, 10, 15}, 30}, {[]int64{12, 18, 20}, 180},
		{[]int64{1, 2, 3, 4, 5, 6, 7, 8, 9, 10, 11, 12, 13, 14, 15, 16}, 720720},
	}
	for _, c := range cases {
		if got, err := Period(lasting(c.periods...)); got != c.want || err != api.OK {
			t.Errorf("Period of T %v: %d, error %d, want %d", c.periods, got, err, c.want)
		}
	}
}

func TestPeriodAboveTheGreatest(t *testing.T) { // P9.1, P9.2, R2
	cases := [][]int64{
		{1<<20 + 1}, {1 << 21}, {1 << 31}, {1<<31 - 1},
		{1 << 20, 3}, {3, 1 << 20}, {1024, 1025}, {1025, 1024}, {1 << 19, 5},
		{1 << 20, 1, 1, 1<<20 + 1}, {2, 3, 5, 7, 11, 13, 17, 19, 23},
		{1 << 31, 1 << 31}, {1 << 31, 1}, {1, 1 << 31}, {1 << 31, 3, 1},
		{1, 2, 3, 4, 5, 6, 7, 8, 9, 10, 11, 12, 13, 14, 15, 17},
	}
	for _, c := range cases {
		isRefused(t, lasting(c...), api.ErrOver)
	}
}

func TestPeriodWhoseProductWouldWrapRound(t *testing.T) { // P9.1, P9.2
	great := primes(40)
	for from := range great {
		for n := 1; n <= 16 && from+n <= len(great); n++ {
			l := lasting(great[from : from+n]...)
			isRefused(t, l, api.ErrOver)
			// What came ahead, and what comes behind it, changes nothing.
			l[n/2].C = l[n/2].T
			isRefused(t, l, api.ErrOver)
		}
	}
	// Products of which 64 bits would keep 0, or a number below it.
	isRefused(t, lasting(1<<31, 1<<31, 1<<31), api.ErrOver)
	isRefused(t, lasting(1<<31, 641, 6700417), api.ErrOver)
	isRefused(t, lasting(641*65537, 6700417, 65535), api.ErrOver)
}

func TestPeriodIsTheLeastCommonMultiple(t *testing.T) { // P9.1
	over := 0
	for _, l := range rows() {
		want := multiple(l)
		if want.Cmp(big.NewInt(1<<20)) > 0 {
			over++
			isRefused(t, l, api.ErrOver)
			continue
		}
		if got, err := Period(l); got != want.Int64() || err != api.OK {
			t.Errorf("Period(%v): %d, error %d, want %d", l, got, err, want)
		}
	}
	if n := len(rows()); over < n/10 || over > n*9/10 {
		t.Errorf("%d of %d rows are above: too few of one kind", over, n)
	}
}

func TestTasksThatMayNotBeAreRefused(t *testing.T) { // P9.1, P9.2, R2
	for _, bad := range samples.Wrong() {
		for _, n := range []int{1, 2, 3, 16} {
			for at := range n {
				l := samples.Same(n, of(5, 1, 2))
				l[at] = bad
				isRefused(t, l, api.ErrArg)
			}
		}
	}
	for _, n := range []int{17, 18, 100, 1 << 16} {
		isRefused(t, samples.Same(n, of(5, 1, 2)), api.ErrArg)
	}
}

func TestErrArgComesAheadOfErrOver(t *testing.T) { // P9.1, P9.2, P1, R2
	for _, bad := range samples.Wrong() {
		for at := range 3 {
			isRefused(t, slices.Insert(lasting(1<<20, 3), at, bad), api.ErrArg)
			isRefused(t, slices.Insert(lasting(1<<31, 1<<31-1), at, bad), api.ErrArg)
		}
	}
	isRefused(t, samples.Same(17, of(5, 1, 1<<31)), api.ErrArg)
	isRefused(t, append(samples.Same(16, of(5, 1, 1<<31)), of(5, 1, 1)), api.ErrArg)
	isRefused(t, samples.Same(16, of(5, 1, 1<<31)), api.ErrOver)
}

func TestLoadAtItsEdges(t *testing.T) { // P9.2, the chapter's example
	cases := []struct {
		l            []api.Task
		work, period int64
		over         bool
	}{
		{nil, 0, 1, false},
		{[]api.Task{}, 0, 1, false},
		{named(1, 4, 1, 6), 5, 12, false},

		{named(1, 1), 1, 1, false},
		{named(3, 7), 3, 7, false},
		{named(1, 1<<20), 1, 1 << 20, false},
		{named(1<<20, 1<<20), 1 << 20, 1 << 20, false},

		{named(1, 2, 1, 2), 2, 2, false},
		{named(1, 2, 1, 3, 1, 6), 6, 6, false},
		{named(1, 2, 1, 3, 1, 7), 41, 42, false},
		{named(1, 2, 1, 3, 1, 5), 31, 30, true},
		{named(1, 1, 1, 1<<20), 1<<20 + 1, 1 << 20, true},
		{named(1023, 1024, 1, 1<<20), 1023<<10 + 1, 1 << 20, false},
		{named(1023, 1024, 1, 1024), 1024, 1024, false},
		{named(1023, 1024, 1024, 1<<20), 1 << 20, 1 << 20, false},
		{named(1023, 1024, 1025, 1<<20), 1<<20 + 1, 1 << 20, true},
		{named(1023, 1024, 1023, 1<<20), 1<<20 - 1, 1 << 20, false},
		{named(2, 4, 2, 4), 4, 4, false},
		{named(1, 1, 1, 1), 2, 1, true},

		{samples.Same(16, of(9, 1, 16)), 16, 16, false},
		{append(samples.Same(15, of(9, 1, 16)), of(9, 2, 16)), 17, 16, true},
		{append(samples.Same(15, of(9, 1, 16)), of(9, 15, 256)), 255, 256, false},
		{samples.Same(16, of(9, 1<<20, 1<<20)), 1 << 24, 1 << 20, true},
		{samples.Same(16, of(9, 1, 1)), 16, 1, true},
		{append(samples.Same(15, of(9, 1, 1)), of(9, 1<<20, 1<<20)), 1 << 24, 1 << 20, true},
	}
	for _, c := range cases {
		if work, period, err := Load(c.l); work != c.work || period != c.period || err != api.OK {
			t.Errorf("Load(%v): %d %d, error %d, want %d %d", c.l, work, period, err, c.work, c.period)
		}
		if over, err := Over(c.l); over != c.over || err != api.OK {
			t.Errorf("Over(%v): %v, error %d, want %v", c.l, over, err, c.over)
		}
	}
}

func TestLoadIsTheSumOfAllShares(t *testing.T) { // P9.2
	heavy := 0
	for _, l := range rows() {
		want, err := Period(l)
		if err != api.OK {
			isRefused(t, l, err)
			continue
		}
		sum := shares(l)
		work, period, err := Load(l)
		if period != want || err != api.OK || big.NewRat(work, max(period, 1)).Cmp(sum) != 0 {
			t.Errorf("Load(%v): %d %d, error %d, want %v of %d", l, work, period, err, sum, want)
		}
		above := sum.Cmp(big.NewRat(1, 1)) > 0
		if above {
			heavy++
		}
		if over, err := Over(l); over != above || err != api.OK {
			t.Errorf("Over(%v): %v, error %d, want %v", l, over, err, above)
		}
	}
	if heavy == 0 {
		t.Error("no row loads more than one")
	}
}

func TestTheLoadDoesNotHangOnDeadlines(t *testing.T) { // P9.2
	l := []api.Task{{ID: 1, C: 2, D: 2, T: 4, Modes: 1}, {ID: 2, C: 3, D: 4, T: 6, Modes: 2}}
	if work, period, err := Load(l); work != 12 || period != 12 || err != api.OK {
		t.Errorf("Load(%v): %d %d, error %d, want 12 12", l, work, period, err)
	}
	if over, err := Over(l); over || err != api.OK {
		t.Errorf("Over(%v): %v, error %d, want false", l, over, err)
	}
}

func TestHeavierAtItsEdges(t *testing.T) { // P9.2
	const most = 1 << 31
	cases := []struct {
		a, b api.Task
		want bool
	}{
		{of(1, 1, 2), of(2, 1, 2), true},
		{of(2, 1, 2), of(1, 1, 2), false},
		{of(1, 1, 2), of(1, 1, 2), false},
		{of(0, 1, 2), of(1023, 1, 2), true},
		{of(1023, 1, 2), of(0, 1, 2), false},
		{of(1, 1, 2), of(2, 2, 4), true},
		{of(2, 2, 4), of(1, 1, 2), false},
		{of(2, 1, 2), of(1, 2, 4), false},
		{of(1, 3, 9), of(1, 1, 3), false},
		{of(1, 1, 3), of(1, 3, 9), false},

		{of(1, 2, 3), of(2, 1, 2), true},
		{of(2, 2, 3), of(1, 1, 2), true},
		{of(1, 2, 3), of(1, 1, 2), true},
		{of(1, 1, 2), of(2, 2, 3), false},
		{of(1, 9, 100), of(2, 1, 2), false},

		{of(9, most-1, most), of(1, most-2, most-1), true},
		{of(1, most-2, most-1), of(9, most-1, most), false},
		{of(9, 1, most-1), of(1, 1, most), true},
		{of(1, 1, most), of(9, 1, most-1), false},
		{of(1, 1, 1), of(2, most, most), true},
		{of(2, most, most), of(1, 1, 1), false},
		{of(9, most, most), of(1, most-1, most), true},
		{of(9, 1, 1), of(1, 1, most), true},
		{of(1, 1, most), of(9, 1, 1), false},
		{of(1, 1, most), of(2, 1, most), true},
		{of(9, 715827883, most), of(1, 1, 3), true},
		{of(1, 715827882, most), of(9, 1, 3), false},
		{of(9, 1, 3), of(1, 715827882, most), true},
	}
	for _, c := range cases {
		if got := Heavier(c.a, c.b); got != c.want {
			t.Errorf("Heavier(%v, %v): %v, want %v", c.a, c.b, got, c.want)
		}
	}
}

func TestHeavierHangsOnShareAndIDAlone(t *testing.T) { // P9.2
	a := api.Task{ID: 3, C: 1, D: 1, T: 4, Modes: 1}
	b := api.Task{ID: 3, C: 1, D: 4, T: 4, Modes: 15}
	if Heavier(a, b) || Heavier(b, a) {
		t.Errorf("%v and %v: one is heavier", a, b)
	}
}

// weighed are tasks that may be, of shares that are the same, that part by little, and that part by much.
func weighed() []api.Task {
	var l []api.Task
	for _, t := range []int64{1, 2, 3, 4, 6, 7, 1 << 20, 1<<31 - 2, 1<<31 - 1, 1 << 31} {
		for _, c := range []int64{1, 2, t / 3, t / 2, t/2 + 1, t - 1, t} {
			if 1 <= c && c <= t {
				l = append(l, of(0, c, t), of(7, c, t), of(1023, c, t))
			}
		}
	}
	return l
}

func TestHeavierIsTheOrderOfShares(t *testing.T) { // P9.2
	for _, a := range weighed() {
		for _, b := range weighed() {
			if got, want := Heavier(a, b), ahead(a, b); got != want {
				t.Errorf("Heavier(%v, %v): %v, want %v", a, b, got, want)
			}
		}
	}
}

func TestHeavierOfTasksThatMayNotBe(t *testing.T) { // P9.2
	bad := append(samples.Wrong(), api.Task{ID: 0, C: 2, D: 2, T: 1, Modes: 1}, api.Task{ID: -1, C: 1, D: 1, T: 1, Modes: 15}, api.Task{ID: 0, C: 0, D: 1, T: 1 << 31, Modes: 15}, api.Task{ID: 2000, C: 1, D: 1, T: 1 << 31, Modes: 15})
	for _, x := range bad {
		for _, good := range weighed() {
			if Heavier(x, good) || Heavier(good, x) {
				t.Errorf("%v, that may not be, and %v: one is heavier", x, good)
			}
		}
		for _, y := range bad {
			if Heavier(x, y) {
				t.Errorf("%v and %v, that may not be: the first is heavier", x, y)
			}
		}
	}
}

// places is l, put in order one by one: each one behind the last of those that it doesn't go ahead of.
func places(l []api.Task) []api.Task {
	var sorted []api.Task
	for _, t := range l {
		at := len(sorted)
		for at > 0 && ahead(t, sorted[at-1]) {
			at--
		}
		sorted = slices.Insert(sorted, at, t)
	}
	return sorted
}

func TestSortOfNoneAndOne(t *testing.T) { // P9.2, R1
	if l := Sort(nil); len(l) != 0 {
		t.Errorf("Sort(nil): %v", l)
	}
	if l := Sort([]api.Task{}); len(l) != 0 {
		t.Errorf("Sort of none: %v", l)
	}
	for _, x := range append(samples.Wrong(), of(1, 1, 1), of(1023, 1, 1<<31)) {
		if l := Sort([]api.Task{x}); !slices.Equal(l, []api.Task{x}) {
			t.Errorf("Sort of %v: %v", x, l)
		}
	}
}

func TestSortAtItsEdges(t *testing.T) { // P9.2
	light, half, heavy := of(1, 1, 9), of(2, 1, 2), of(3, 1, 1)
	other := of(1, 2, 4)
	cases := []struct{ l, want []api.Task }{
		{[]api.Task{light, half, heavy}, []api.Task{heavy, half, light}},
		{[]api.Task{heavy, half, light}, []api.Task{heavy, half, light}},
		{[]api.Task{half, heavy, light}, []api.Task{heavy, half, light}},
		{[]api.Task{half, other, light}, []api.Task{other, half, light}},
		{[]api.Task{light, light, heavy, light}, []api.Task{heavy, light, light, light}},
	}
	for _, c := range cases {
		if got := Sort(c.l); !slices.Equal(got, c.want) {
			t.Errorf("Sort(%v): %v, want %v", c.l, got, c.want)
		}
	}
}

func TestSortIsTheHeaviestFirst(t *testing.T) { // P9.2
	for _, l := range append(rows(), weighed()) {
		if got, want := Sort(l), places(l); !slices.Equal(got, want) {
			t.Errorf("Sort(%v): %v, want %v", l, got, want)
		}
	}
}

func TestSortLeavesThoseOfWhichNoneIsHeavierAsTheyStand(t *testing.T) { // P9.2
	// Of one ID and one share: what parts them is what Sort must not look at.
	var l []api.Task
	for i := range int64(200) {
		k := 1 + (i*7)%50
		l = append(l, api.Task{ID: 3, C: k, D: k + (i*3)%(k+1), T: 2 * k, Modes: 1 + int(i*11)%15})
	}
	for _, n := range []int{2, 12, 13, 16, 20, 21, 41, 200} {
		if got := Sort(l[:n]); !slices.Equal(got, l[:n]) {
			t.Errorf("Sort of %d of the same weight: %v, want %v", n, got, l[:n])
		}
	}
	// The same in two heaps, of which one is the heavier.
	var mixed, first, last []api.Task
	for i, t := range l {
		if i%3 == 0 {
			t.T *= 2
			last = append(last, t)
		} else {
			first = append(first, t)
		}
		mixed = append(mixed, t)
	}
	if got, want := Sort(mixed), slices.Concat(first, last); !slices.Equal(got, want) {
		t.Errorf("Sort of two weights: %v, want %v", got, want)
	}
}

func TestSortOfManyMoreThanARow(t *testing.T) { // P9.2, R5
	draw := samples.Drawing(3)
	var l []api.Task
	for range 1200 {
		n := 1 + draw(40)
		c := 1 + draw(n)
		l = append(l, api.Task{ID: int(draw(4)), C: c, D: c + draw(n-c+1), T: n, Modes: 1 + int(draw(15))})
	}
	if got, want := Sort(l), places(l); !slices.Equal(got, want) {
		t.Error("Sort of 1200 tasks: not as they go ahead of one another")
	}
	many := slices.Repeat(l, 100)
	got := Sort(many)
	if len(got) != len(many) {
		t.Fatalf("Sort of %d tasks: %d", len(many), len(got))
	}
	for i := 1; i < len(got); i++ {
		if ahead(got[i], got[i-1]) {
			t.Fatalf("Sort of %d tasks: %v behind %v", len(many), got[i], got[i-1])
		}
	}
}

func TestSortOfTasksThatMayNotBe(t *testing.T) { // P9.2
	bad := samples.Wrong()
	if got := Sort(bad); !slices.Equal(got, bad) {
		t.Errorf("Sort(%v): %v, want them as they stand", bad, got)
	}
	slices.Reverse(bad)
	if got := Sort(bad); !slices.Equal(got, bad) {
		t.Errorf("Sort(%v): %v, want them as they stand", bad, got)
	}
	light, heavy := of(1, 1, 9), of(3, 1, 1)
	for _, x := range bad {
		cases := []struct{ l, want []api.Task }{
			{[]api.Task{x, light, heavy}, []api.Task{x, heavy, light}},
			{[]api.Task{light, heavy, x}, []api.Task{heavy, light, x}},
			{[]api.Task{light, x}, []api.Task{light, x}},
			{[]api.Task{x, heavy}, []api.Task{x, heavy}},
			{[]api.Task{heavy, x, light}, []api.Task{heavy, x, light}},
			{[]api.Task{light, x, heavy}, []api.Task{heavy, x, light}},
			{[]api.Task{x, light, x, x, heavy, x}, []api.Task{x, heavy, x, x, light, x}},
		}
		for _, c := range cases {
			if got := Sort(c.l); !slices.Equal(got, c.want) {
				t.Errorf("Sort(%v): %v, want %v", c.l, got, c.want)
			}
		}
	}
}

func TestSortAmongTasksThatMayNotBe(t *testing.T) { // P9.2
	draw := samples.Drawing(4)
	bad, good := samples.Wrong(), weighed()
	for range 2000 {
		var l, may []api.Task
		for range draw(40) {
			if x := good[draw(int64(len(good)))]; draw(3) > 0 {
				l, may = append(l, x), append(may, x)
			} else {
				l = append(l, bad[draw(int64(len(bad)))])
			}
		}
		got, sorted := Sort(l), places(may)
		if len(got) != len(l) {
			t.Fatalf("Sort(%v): %v", l, got)
		}
		for i, x := range l {
			if want := x; mayBe(x) {
				want, sorted = sorted[0], sorted[1:]
				if got[i] != want {
					t.Errorf("Sort(%v): %v at %d, want %v", l, got[i], i, want)
				}
			} else if got[i] != want {
				t.Errorf("Sort(%v): %v at %d, want it where it stood", l, got[i], i)
			}
		}
	}
}

func TestWhatIsHandedInStaysAsItIs(t *testing.T) { // R3
	all := append(rows(), weighed(), samples.Wrong())
	for _, l := range all {
		before := slices.Clone(l)
		Row(l)
		Period(l)
		Load(l)
		Over(l)
		Sort(l)
		if !slices.Equal(l, before) {
			t.Errorf("%v became %v", before, l)
		}
	}
}

func TestWhatSortTellsIsTheCallersOwn(t *testing.T) { // P9.2, R3
	all := append(rows(), weighed(), samples.Wrong())
	for _, l := range all {
		l = slices.Grow(slices.Clone(l), 4)
		whole := l[:cap(l)]
		before := slices.Clone(whole)
		told := Sort(l)
		kept := slices.Clone(told)
		for i := range whole {
			whole[i] = of(77, 1, 77)
		}
		if !slices.Equal(told, kept) {
			t.Errorf("Sort(%v): what it told changed with what was handed in", before)
		}
		copy(whole, before)
		again := Sort(l)
		mine := told[:cap(told)]
		for i := range mine {
			mine[i] = of(88, 1, 88)
		}
		if !slices.Equal(whole, before) {
			t.Errorf("Sort(%v): what was handed in changed with what it told", before)
		}
		if !slices.Equal(again, kept) {
			t.Errorf("Sort(%v): %v, then %v", before, kept, again)
		}
	}
}

func TestAllCallsEndAtAllArguments(t *testing.T) { // P1, R4
	all := edges()
	for i, a := range all {
		b := all[(i*7919)%len(all)]
		l := []api.Task{a, b, of(1, 1, 2)}
		if Heavier(a, b) && Heavier(b, a) {
			t.Errorf("%v and %v: each is heavier than the other", a, b)
		}
		if !mayBe(a) || !mayBe(b) {
			isRefused(t, l, api.ErrArg)
		}
		if first, again := Sort(l), Sort(l); !slices.Equal(first, again) {
			t.Errorf("Sort(%v): %v, then %v", l, first, again)
		}
	}
	if got := Sort(all); len(got) != len(all) {
		t.Errorf("Sort of %d tasks: %d", len(all), len(got))
	}
	isRefused(t, all, api.ErrArg)
}
