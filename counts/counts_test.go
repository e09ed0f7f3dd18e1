package counts

import (
	"fmt"
	"math"
	"testing"
)

const (
	least    = int64(math.MinInt64)
	greatest = int64(math.MaxInt64)
)

// row is what counts must tell like: plain numbers of all kinds.
type row [8]int64

// numbers are some of all numbers, with 0, the least and the greatest ones.
func numbers() []int64 {
	return []int64{least, least + 1, -1 << 62, -1<<53 - 1, -1 << 32, -1<<31 - 1, -1 << 31, -1000, -3, -2, -1, 0, 1, 2, 3, 1000, 1<<31 - 1, 1 << 31, 1 << 32, 1<<53 + 1, 1 << 62, greatest - 1, greatest}
}

// noKinds are numbers that are no kind, the least and the greatest ones among them.
func noKinds() []int {
	return []int{math.MinInt, math.MinInt + 1, math.MinInt + 7, -1 << 32, -256, -9, -8, -7, -2, -1, 8, 9, 10, 15, 16, 63, 255, 256, 1 << 31, 1 << 32, 1<<32 + 7, math.MaxInt - 7, math.MaxInt - 1, math.MaxInt}
}

// adds looks at what an Add tells, and at Get behind it.
func adds(t *testing.T, c *Counts, kind int, n, want int64) {
	t.Helper()
	if told := c.Add(kind, n); told != want {
		t.Fatalf("Add(%d, %d): %d, want %d", kind, n, told, want)
	}
	gets(t, c, kind, want)
}

// gets looks at what Get tells.
func gets(t *testing.T, c *Counts, kind int, want int64) {
	t.Helper()
	if told := c.Get(kind); told != want {
		t.Fatalf("Get(%d): %d, want %d", kind, told, want)
	}
}

// swaps looks at what a Swap tells, which is what was there, and at Get behind it.
func swaps(t *testing.T, c *Counts, kind int, n, was, then int64) {
	t.Helper()
	if told := c.Swap(kind, n); told != was {
		t.Fatalf("Swap(%d, %d): %d, want %d", kind, n, told, was)
	}
	gets(t, c, kind, then)
}

// mosts looks at what a Most tells, and at Get behind it.
func mosts(t *testing.T, c *Counts, kind int, n, want int64) {
	t.Helper()
	if told := c.Most(kind, n); told != want {
		t.Fatalf("Most(%d, %d): %d, want %d", kind, n, told, want)
	}
	gets(t, c, kind, want)
}

// has looks at all that counts tell without being changed, twice: that there is just this, and that what All told is the caller's own.
func has(t *testing.T, what string, c *Counts, want row) {
	t.Helper()
	sum := uint64(0)
	for _, n := range want {
		sum += uint64(n)
	}
	for range 2 {
		all := c.All()
		if all != want {
			t.Fatalf("%s: All: %v, want %v", what, all, want)
		}
		for kind, n := range want {
			if told := c.Get(kind); told != n {
				t.Fatalf("%s: Get(%d): %d, want %d", what, kind, told, n)
			}
		}
		for _, kind := range noKinds() {
			if told := c.Get(kind); told != 0 {
				t.Fatalf("%s: Get(%d): %d, want 0, as there is no such kind", what, kind, told)
			}
		}
		if told := c.Sum(); told != int64(sum) {
			t.Fatalf("%s: Sum: %d, want %d", what, told, int64(sum))
		}
		for kind := range all {
			all[kind] = 77 - all[kind]
		}
	}
}

// of are counts of these numbers.
func of(t *testing.T, r row) *Counts {
	t.Helper()
	c := New()
	for kind, n := range r {
		adds(t, c, kind, n, n)
	}
	return c
}

// some are numbers of all kinds, each another one, of which the first and the last are not 0.
func some() row {
	return row{5, -3, 0, 1 << 40, -1 << 40, 1, greatest, 9}
}

func TestNewCountsAreZero(t *testing.T) { // P21.1
	c := New()
	if c == nil {
		t.Fatal("New: nil")
	}
	has(t, "New", c, row{})
	adds(t, c, 3, 4, 4)
	has(t, "New, behind an Add to another one", New(), row{})
}

func TestZeroCountsAreNewOnes(t *testing.T) { // 'A nil one', P21.1
	var c Counts
	has(t, "zero counts", &c, row{})
	mosts(t, new(Counts), 7, -1, 0)
	mosts(t, new(Counts), 7, 1, 1)
	swaps(t, new(Counts), 0, -8, 0, -8)
	zero := new(Counts)
	zero.Reset()
	has(t, "zero counts, behind a Reset", zero, row{})
	for kind, n := range some() {
		adds(t, &c, kind, n, n)
	}
	has(t, "zero counts, behind an Add of each kind", &c, some())
}

func TestAddOfEachKind(t *testing.T) { // P21.1
	for kind, there := range some() {
		for _, n := range numbers() {
			what := fmt.Sprintf("Add(%d, %d)", kind, n)
			c, want := New(), row{}
			want[kind] = n
			adds(t, c, kind, n, n)
			has(t, what, c, want)
			adds(t, c, kind, 0, n)
			has(t, what+", and of 0", c, want)
			c, want = of(t, some()), some()
			want[kind] = there - n
			adds(t, c, kind, -n, there-n)
			has(t, what+", of as many fewer, beside others", c, want)
			adds(t, c, kind, n, there)
			has(t, what+", beside others", c, some())
		}
	}
}

func TestAddCountsUpAndDown(t *testing.T) { // P21.1
	for kind := range 8 {
		c := New()
		adds(t, c, kind, 1, 1)
		adds(t, c, kind, 1, 2)
		adds(t, c, kind, 40, 42)
		adds(t, c, kind, 0, 42)
		adds(t, c, kind, -2, 40)
		adds(t, c, kind, -40, 0)
		adds(t, c, kind, -1, -1)
		adds(t, c, kind, -9, -10)
		adds(t, c, kind, 0, -10)
		adds(t, c, kind, 13, 3)
		want := row{}
		want[kind] = 3
		has(t, fmt.Sprint("kind ", kind), c, want)
	}
}

func TestAddGoesRound(t *testing.T) { // P21.1
	for _, x := range []struct{ there, n, want int64 }{
		{greatest, 1, least},
		{greatest, 2, least + 1},
		{greatest - 1, 1, greatest},
		{greatest - 1, 2, least},
		{greatest, greatest, -2},
		{greatest, least, -1},
		{1, greatest, least},
		{1 << 62, 1 << 62, least},
		{least, -1, greatest},
		{least, -2, greatest - 1},
		{least + 1, -1, least},
		{least + 1, -2, greatest},
		{least, least, 0},
		{least, greatest, -1},
		{-1, least, greatest},
		{-1 << 62, -1<<62 - 1, greatest},
	} {
		for kind := range 8 {
			c, want := of(t, some()), some()
			swaps(t, c, kind, x.there, want[kind], x.there)
			adds(t, c, kind, x.n, x.want)
			want[kind] = x.want
			has(t, fmt.Sprintf("%d and %d of kind %d", x.there, x.n, kind), c, want)
		}
	}
}

func TestSwap(t *testing.T) { // P21.1
	for kind := range 8 {
		for _, was := range numbers() {
			for _, n := range numbers() {
				c, want := of(t, some()), some()
				swaps(t, c, kind, was, some()[kind], was)
				swaps(t, c, kind, n, was, n)
				want[kind] = n
				has(t, fmt.Sprintf("Swap(%d, %d), then of %d", kind, was, n), c, want)
			}
		}
	}
}

func TestMost(t *testing.T) { // P21.1
	for kind := range 8 {
		for i, there := range numbers() {
			for k, n := range numbers() {
				c, want := of(t, some()), some()
				swaps(t, c, kind, there, some()[kind], there)
				want[kind] = there
				if k > i { // they rise
					want[kind] = n
				}
				mosts(t, c, kind, n, want[kind])
				has(t, fmt.Sprintf("%d are there, Most(%d, %d)", there, kind, n), c, want)
				mosts(t, c, kind, n, want[kind])
				has(t, fmt.Sprintf("%d are there, Most(%d, %d) twice", there, kind, n), c, want)
			}
		}
	}
}

func TestMostOfNew(t *testing.T) { // P21.1
	c := New()
	mosts(t, c, 2, least, 0)
	mosts(t, c, 2, -1, 0)
	mosts(t, c, 2, 0, 0)
	mosts(t, c, 2, 1, 1)
	mosts(t, c, 2, 0, 1)
	adds(t, c, 2, -5, -4)
	mosts(t, c, 2, -5, -4)
	mosts(t, c, 2, -4, -4)
	mosts(t, c, 2, -3, -3)
	mosts(t, c, 2, greatest, greatest)
	has(t, "Most of one kind", c, row{2: greatest})
}

func TestAllIsByKinds(t *testing.T) { // P21.1, R3
	for kind := range 8 {
		c, want := New(), row{}
		want[kind] = int64(kind) - 100
		adds(t, c, kind, want[kind], want[kind])
		has(t, fmt.Sprint("kind ", kind, " alone"), c, want)
	}
	c := of(t, some())
	told := c.All()
	kept := told
	for kind := range 8 {
		c.Add(kind, 1)
	}
	if told != kept {
		t.Errorf("what All told became %v behind an Add", told)
	}
	told[0], told[7] = 1000, 2000
	has(t, "behind a change of what All told", c, row{6, -2, 1, 1<<40 + 1, -1<<40 + 1, 2, least, 10})
}

func TestReset(t *testing.T) { // P21.1
	for _, r := range []row{{}, some(), {7: 1}, {0: -1}, {least, least, least, least, least, least, least, least}, {greatest, greatest, greatest, greatest, greatest, greatest, greatest, greatest}} {
		c := of(t, r)
		has(t, "ahead of Reset", c, r)
		c.Reset()
		has(t, fmt.Sprint(r, ", behind Reset"), c, row{})
		c.Reset()
		has(t, fmt.Sprint(r, ", behind Reset twice"), c, row{})
		for kind, n := range some() {
			adds(t, c, kind, n, n)
		}
		has(t, fmt.Sprint(r, ", behind Reset and more"), c, some())
	}
}

func TestSum(t *testing.T) { // P21.1
	for _, x := range []struct {
		r    row
		want int64
	}{
		{row{}, 0},
		{row{1, 2, 3, 4, 5, 6, 7, 8}, 36},
		{row{-1, -2, -3, -4, -5, -6, -7, -8}, -36},
		{row{1, -1, 2, -2, 3, -3, 4, -4}, 0},
		{row{7: 5}, 5},
		{row{0: -5}, -5},
		{row{greatest, 1}, least},
		{row{0: greatest, 7: 1}, least},
		{row{least, -1}, greatest},
		{row{0: -1, 7: least}, greatest},
		{row{greatest, greatest}, -2},
		{row{least, least}, 0},
		{row{least, least, least}, least},
		{row{least, greatest}, -1},
		{row{greatest, greatest, greatest, greatest, greatest, greatest, greatest, greatest}, -8},
		{row{least + 1, least + 1, least + 1, least + 1, least + 1, least + 1, least + 1, least + 1}, 8},
		{row{greatest, 1, -1, 0, 5, 0, -5, 0}, greatest},
	} {
		c := of(t, x.r)
		if told := c.Sum(); told != x.want {
			t.Errorf("Sum of %v: %d, want %d", x.r, told, x.want)
		}
		has(t, "behind Sum", c, x.r)
	}
}

func TestAnotherKind(t *testing.T) { // P21.1
	for _, r := range []row{{}, some()} {
		c := of(t, r)
		for _, kind := range noKinds() {
			for _, n := range numbers() {
				adds(t, c, kind, n, 0)
				swaps(t, c, kind, n, 0, 0)
				mosts(t, c, kind, n, 0)
			}
			has(t, fmt.Sprint("calls of kind ", kind), c, r)
		}
	}
}

func TestNilCounts(t *testing.T) { // 'A nil one'
	var c *Counts
	for _, kind := range append(noKinds(), 0, 1, 2, 3, 4, 5, 6, 7) {
		for _, n := range numbers() {
			adds(t, c, kind, n, 0)
			swaps(t, c, kind, n, 0, 0)
			mosts(t, c, kind, n, 0)
		}
	}
	has(t, "nil counts", c, row{})
	c.Reset()
	has(t, "nil counts, behind Reset", c, row{})
}

func TestTwoCountsAreApart(t *testing.T) { // P21.1
	a, b := New(), New()
	for kind := range 8 {
		adds(t, a, kind, 3, 3)
		mosts(t, b, kind, 2, 2)
		swaps(t, a, kind, 4, 3, 4)
		gets(t, b, kind, 2)
	}
	b.Reset()
	has(t, "those that were not reset", a, row{4, 4, 4, 4, 4, 4, 4, 4})
	has(t, "those that were reset", b, row{})
}

func TestExample(t *testing.T) { // the chapter's
	c := New()
	adds(t, c, 1, 2, 2)
	adds(t, c, 1, 3, 5)
	mosts(t, c, 1, 4, 5)
	mosts(t, c, 1, 9, 9)
	has(t, "the example", c, row{1: 9})
}
