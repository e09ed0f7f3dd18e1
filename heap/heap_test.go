package heap

import (
	"cmp"
	"fmt"
	"slices"
	"strings"
	"testing"

	"horarium/samples"
)

// rising is the order of whole numbers.
func rising(a, b int) bool {
	return a < b
}

// job is a thing with an order of its own.
type job struct {
	due, id int
	name    string
}

// ahead is that order: the earliest due first, of these the greatest id; the name tells apart what is the same.
func ahead(a, b job) bool {
	return a.due < b.due || a.due == b.due && a.id > b.id
}

// byLess is how sorting of the library asks for an order.
func byLess[T any](less func(a, b T) bool) func(a, b T) int {
	return func(a, b T) int {
		switch {
		case less(a, b):
			return -1
		case less(b, a):
			return 1
		}
		return 0
	}
}

// sorted are these things in their order.
func sorted[T any](less func(a, b T) bool, l []T) []T {
	return slices.SortedStableFunc(slices.Values(l), byLess(less))
}

// puts looks at a Put that must be done.
func puts[T any](t *testing.T, h *Heap[T], x T) {
	t.Helper()
	if !h.Put(x) {
		t.Fatalf("Put(%v): false", x)
	}
}

// filled is a heap of these things, put as they stand.
func filled[T any](t *testing.T, less func(a, b T) bool, l ...T) *Heap[T] {
	t.Helper()
	h := New(less)
	for _, x := range l {
		puts(t, h, x)
	}
	return h
}

// tells looks at what a thing and a truth are that were told: the first one that is wanted; none, if nothing is.
func tells[T comparable](t *testing.T, what string, x T, ok bool, want []T) {
	t.Helper()
	var must T
	if len(want) > 0 {
		must = want[0]
	}
	if x != must || ok != (len(want) > 0) {
		t.Fatalf("%s: %v, %t, want the first one of %v", what, x, ok, want)
	}
}

// has looks at all that a heap tells without being changed, twice: that it has just these things in this order, and that a list that was told is the caller's own.
func has[T comparable](t *testing.T, what string, h *Heap[T], want []T) {
	t.Helper()
	for range 2 {
		if n := h.Len(); n != len(want) {
			t.Fatalf("%s: Len: %d, want %d", what, n, len(want))
		}
		x, ok := h.Min()
		tells(t, what+": Min", x, ok, want)
		l := h.List()
		if !slices.Equal(l, want) {
			t.Fatalf("%s: List: %v, want %v", what, l, want)
		}
		l = l[:cap(l)]
		slices.Reverse(l)
		clear(l[len(l)/2:])
	}
}

// drains takes all things, which must be these in this order, and looks at what the heap has behind each one.
func drains[T comparable](t *testing.T, what string, h *Heap[T], want []T) {
	t.Helper()
	has(t, what, h, want)
	for i := range len(want) + 2 {
		left := want[min(i, len(want)):]
		x, ok := h.Take()
		tells(t, fmt.Sprint(what, ": Take ", i), x, ok, left)
		has(t, fmt.Sprint(what, ": behind Take ", i), h, left[min(1, len(left)):])
	}
}

// numbers are rows of whole numbers: none, one, two and many, that rise, that fall, that are mixed, and that are the same more than once.
func numbers() [][]int {
	l := [][]int{nil, {7}, {0}, {-1}, {1, 2}, {2, 1}, {3, 3}, {5, 3, 5, 4}, {4, 4, 4, 4, 4}, {-3, 3, 0, -3, 0, 3}}
	draw := samples.Drawing(16)
	for _, n := range []int{3, 4, 7, 8, 9, 31, 32, 33, 60} {
		var up, mixed, few []int
		for i := range n {
			up = append(up, 2*i-n)
			mixed = append(mixed, int(draw(1000))-500)
			few = append(few, int(draw(4)))
		}
		down := slices.Clone(up)
		slices.Reverse(down)
		l = append(l, up, down, mixed, few, slices.Repeat([]int{n}, n))
	}
	return l
}

// rows goes over all rows of up to most things of which each is one of these.
func rows(most int, things ...int) func(yield func(l []int) bool) {
	return func(yield func(l []int) bool) {
		last := [][]int{nil}
		for range most + 1 {
			var longer [][]int
			for _, l := range last {
				if !yield(l) {
					return
				}
				for _, x := range things {
					longer = append(longer, append(slices.Clone(l), x))
				}
			}
			last = longer
		}
	}
}

func TestNewHasNothing(t *testing.T) { // P16.1
	drains(t, "numbers", New(rising), nil)
	drains(t, "texts", New(func(a, b string) bool { return a < b }), nil)
	drains(t, "jobs", New(ahead), nil)
}

func TestPut(t *testing.T) { // P16.1
	for _, l := range numbers() {
		h := New(rising)
		for i, x := range l {
			puts(t, h, x)
			has(t, fmt.Sprint("put ", l[:i+1]), h, sorted(rising, l[:i+1]))
		}
		drains(t, fmt.Sprint("all of ", l), h, sorted(rising, l))
	}
}

func TestPutOfAllSmallRows(t *testing.T) { // P16.1, P16.2
	for l := range rows(6, 0, 1, 2, 3) {
		drains(t, fmt.Sprint(l), filled(t, rising, l...), sorted(rising, l))
	}
	for l := range rows(7, 1, 2) {
		drains(t, fmt.Sprint(l), filled(t, rising, l...), sorted(rising, l))
	}
}

func TestPutBehindNothingIsLeft(t *testing.T) { // P16.1
	h := New(rising)
	for _, l := range numbers() {
		for _, x := range l {
			puts(t, h, x)
		}
		drains(t, fmt.Sprint("once more, with ", l), h, sorted(rising, l))
	}
}

func TestMin(t *testing.T) { // P16.1
	for _, l := range numbers() {
		h, want := filled(t, rising, l...), sorted(rising, l)
		for range 5 {
			x, ok := h.Min()
			tells(t, fmt.Sprint("Min of ", l), x, ok, want)
		}
		drains(t, fmt.Sprint("behind Min of ", l), h, want)
	}
}

func TestTakeAmidPuts(t *testing.T) { // P16.1, P16.2
	h := filled(t, rising, 5, 1)
	for i, x := range []int{0, 9, 1, 5, 5, -2, 7} {
		want := sorted(rising, append(h.List(), x))
		puts(t, h, x)
		told, ok := h.Take()
		tells(t, fmt.Sprint("Take ", i), told, ok, want)
		has(t, fmt.Sprint("behind Take ", i), h, want[1:])
	}
	drains(t, "in the end", h, []int{7, 9})
}

// changes looks at a Change to x of a heap of the things of l.
func changes(t *testing.T, l []int, x int) {
	t.Helper()
	h, what := filled(t, rising, l...), fmt.Sprintf("Change(%d) of %v", x, l)
	var want []int
	if len(l) > 0 {
		want = sorted(rising, append(sorted(rising, l)[1:], x))
	}
	if ok := h.Change(x); ok != (len(l) > 0) {
		t.Errorf("%s: %t", what, ok)
	}
	drains(t, what, h, want)
}

func TestChange(t *testing.T) { // P16.1
	for _, l := range numbers() {
		least, greatest := 0, 0
		if len(l) > 0 {
			least, greatest = slices.Min(l), slices.Max(l)
		}
		for _, x := range []int{least - 1, least, least + 1, (least + greatest) / 2, greatest - 1, greatest, greatest + 1} {
			changes(t, l, x)
		}
	}
}

func TestChangeOfAllSmallRows(t *testing.T) { // P16.1
	for l := range rows(5, 1, 3, 5) {
		for x := range 7 {
			changes(t, l, x)
		}
	}
}

func TestChangeOfNothing(t *testing.T) { // P16.1
	h := New(rising)
	for range 3 {
		if h.Change(4) {
			t.Error("Change of nothing: true")
		}
		drains(t, "behind Change of nothing", h, nil)
	}
	puts(t, h, 6)
	drains(t, "behind Change of nothing and Put", h, []int{6})
	if h.Change(4) {
		t.Error("Change of nothing left: true")
	}
	drains(t, "behind Change of nothing left", h, nil)
}

func TestChangeAgainAndAgain(t *testing.T) { // P16.1, P16.2
	h := filled(t, rising, 5, 3, 8, 1)
	for i := range 20 {
		x := (i * 7) % 11
		want := sorted(rising, append(h.List()[1:], x))
		if !h.Change(x) {
			t.Errorf("Change(%d): false", x)
		}
		has(t, fmt.Sprintf("behind Change(%d), the one at %d", x, i), h, want)
	}
}

// drops looks at a Drop of the things of l of which is says yes.
func drops(t *testing.T, l []int, is func(x int) bool) {
	t.Helper()
	h, all := filled(t, rising, l...), sorted(rising, l)
	want := slices.DeleteFunc(slices.Clone(all), is)
	what := fmt.Sprintf("Drop of all but %v of %v", want, l)
	var asked []int
	n := h.Drop(func(x int) bool {
		asked = append(asked, x)
		return is(x)
	})
	if n != len(l)-len(want) {
		t.Errorf("%s: %d, want %d", what, n, len(l)-len(want))
	}
	if !slices.Equal(asked, all) {
		t.Errorf("%s: asked of %v, want each one once, the least first", what, asked)
	}
	has(t, what, h, want)
	for _, x := range []int{2, -600, 600} {
		puts(t, h, x)
	}
	drains(t, what+", and Put", h, sorted(rising, append(want, 2, -600, 600)))
}

func TestDrop(t *testing.T) { // P16.1, P16.2
	for _, l := range numbers() {
		least, greatest := 0, 0
		if len(l) > 0 {
			least, greatest = slices.Min(l), slices.Max(l)
		}
		drops(t, l, func(x int) bool { return false })
		drops(t, l, func(x int) bool { return true })
		drops(t, l, func(x int) bool { return x == least })
		drops(t, l, func(x int) bool { return x == greatest })
		drops(t, l, func(x int) bool { return x > least })
		drops(t, l, func(x int) bool { return x < greatest })
		drops(t, l, func(x int) bool { return x&1 == 0 })
		drops(t, l, func(x int) bool { return x < (least+greatest)/2 })
		drops(t, l, func(x int) bool { return x > (least+greatest)/2 })
		drops(t, l, func(x int) bool { return x == 3 })
	}
}

func TestDropOfAllSmallRows(t *testing.T) { // P16.1
	for l := range rows(5, 0, 1, 2) {
		for set := range 8 {
			drops(t, l, func(x int) bool { return set>>x&1 == 1 })
		}
	}
}

func TestDropOfANilIs(t *testing.T) { // P16.1
	for _, l := range numbers() {
		h := filled(t, rising, l...)
		if n := h.Drop(nil); n != 0 {
			t.Errorf("Drop(nil) of %v: %d", l, n)
		}
		drains(t, fmt.Sprint("behind Drop(nil) of ", l), h, sorted(rising, l))
	}
}

func TestDropBehindDrop(t *testing.T) { // P16.1, P16.2
	h := filled(t, rising, 9, 8, 7, 6, 5, 4, 3, 2, 1, 0)
	for i, x := range []struct {
		is   func(x int) bool
		want []int
	}{
		{func(x int) bool { return x%3 == 0 }, []int{1, 2, 4, 5, 7, 8}},
		{func(x int) bool { return x%3 == 0 }, []int{1, 2, 4, 5, 7, 8}},
		{func(x int) bool { return x == 1 || x == 8 }, []int{2, 4, 5, 7}},
		{func(x int) bool { return x > 4 }, []int{2, 4}},
		{func(x int) bool { return true }, nil},
		{func(x int) bool { return true }, nil},
	} {
		must := h.Len() - len(x.want)
		if n := h.Drop(x.is); n != must {
			t.Errorf("Drop %d: %d, want %d", i, n, must)
		}
		has(t, fmt.Sprint("behind Drop ", i), h, x.want)
	}
	puts(t, h, 3)
	drains(t, "behind all", h, []int{3})
}

func TestListIsTheCallersOwn(t *testing.T) { // P16.1, R3
	for _, l := range numbers() {
		h, want := filled(t, rising, l...), sorted(rising, l)
		told, again := h.List(), h.List()
		told = told[:cap(told)]
		for i := range told {
			told[i] = 1000 - i
		}
		if !slices.Equal(again, want) {
			t.Errorf("List of %v: two that were told share what they have: %v", l, again)
		}
		has(t, fmt.Sprint("behind a change of List of ", l), h, want)
		kept := h.List()
		h.Change(2000)
		h.Take()
		puts(t, h, -2000)
		h.Drop(func(x int) bool { return x < 0 })
		if !slices.Equal(kept, want) {
			t.Errorf("List of %v: what was told is %v when the heap has changed", l, kept)
		}
	}
}

func TestTwoHeaps(t *testing.T) { // P16.1
	a, b := filled(t, rising, 5, 3), filled(t, func(a, b int) bool { return a > b }, 4, 6)
	puts(t, a, 9)
	has(t, "the other, behind Put", b, []int{6, 4})
	b.Change(1)
	has(t, "the one, behind Change", a, []int{3, 5, 9})
	a.Take()
	has(t, "the other, behind Take", b, []int{4, 1})
	b.Drop(func(int) bool { return true })
	has(t, "the one, behind Drop", a, []int{5, 9})
	puts(t, b, 7)
	drains(t, "the one", a, []int{5, 9})
	drains(t, "the other", b, []int{7})
}

func TestHeapOfTexts(t *testing.T) { // P16.1, P16.2
	less := func(a, b string) bool { return a < b }
	h := filled(t, less, "b", "", "ab", "a", "\xff", "b", "a\x00", "B")
	has(t, "texts", h, []string{"", "B", "a", "a\x00", "ab", "b", "b", "\xff"})
	if !h.Change("aa") {
		t.Error("Change: false")
	}
	if n := h.Drop(func(x string) bool { return strings.HasPrefix(x, "b") }); n != 2 {
		t.Errorf("Drop: %d, want 2", n)
	}
	puts(t, h, "")
	drains(t, "texts, in the end", h, []string{"", "B", "a", "a\x00", "aa", "ab", "\xff"})
	long := filled(t, func(a, b string) bool { return len(a) > len(b) }, "one", "three", "", "four")
	drains(t, "the longest first", long, []string{"three", "four", "one", ""})
}

func TestHeapOfJobs(t *testing.T) { // P16.1, P16.2
	h := filled(t, ahead, job{9, 1, "a"}, job{5, 2, "b"}, job{9, 0, "c"}, job{5, 7, "d"}, job{})
	has(t, "jobs", h, []job{{}, {5, 7, "d"}, {5, 2, "b"}, {9, 1, "a"}, {9, 0, "c"}})
	if !h.Change(job{9, 3, "e"}) {
		t.Error("Change: false")
	}
	if n := h.Drop(func(x job) bool { return x.id == 2 || x.name == "a" }); n != 2 {
		t.Errorf("Drop: %d, want 2", n)
	}
	puts(t, h, job{5, 3, "f"})
	drains(t, "jobs, in the end", h, []job{{5, 7, "d"}, {5, 3, "f"}, {9, 3, "e"}, {9, 0, "c"}})
}

func TestHeapOfPointersAndOfAny(t *testing.T) { // P16.1
	a, b, c := 3, 1, 2
	h := filled(t, func(a, b *int) bool { return *a < *b }, &a, &b, &c)
	drains(t, "pointers", h, []*int{&b, &c, &a})
	lengths := filled(t, func(a, b any) bool { return len(fmt.Sprint(a)) < len(fmt.Sprint(b)) }, any("abcd"), 17, nil, 2.5)
	drains(t, "of any", lengths, []any{17, 2.5, "abcd", nil})
}

// isNothing looks at each call of a heap that can have no things.
func isNothing[T comparable](t *testing.T, what string, h *Heap[T], x T) {
	t.Helper()
	for range 2 {
		if h.Put(x) {
			t.Errorf("%s: Put: true", what)
		}
		if h.Change(x) {
			t.Errorf("%s: Change: true", what)
		}
		for _, is := range []func(T) bool{nil, func(T) bool { return true }, func(T) bool { return false }} {
			if n := h.Drop(is); n != 0 {
				t.Errorf("%s: Drop: %d", what, n)
			}
		}
		drains(t, what, h, nil)
	}
}

func TestNilAndZeroHeaps(t *testing.T) { // P16.1
	isNothing(t, "a nil heap", (*Heap[int])(nil), 5)
	isNothing(t, "a heap of a nil less", New[int](nil), 5)
	isNothing(t, "a zero heap", new(Heap[int]), 5)
	isNothing(t, "a nil heap of texts", (*Heap[string])(nil), "a")
	isNothing(t, "a heap of texts of a nil less", New[string](nil), "a")
	isNothing(t, "a zero heap of texts", &Heap[string]{}, "a")
	isNothing(t, "a nil heap of jobs", (*Heap[job])(nil), job{1, 2, "a"})
	isNothing(t, "a heap of jobs of a nil less", New[job](nil), job{1, 2, "a"})
	isNothing(t, "a zero heap of jobs", &Heap[job]{}, job{1, 2, "a"})
}

func TestExample(t *testing.T) { // the chapter's
	h := New(cmp.Less[int])
	for _, x := range []int{5, 3, 5, 4} {
		h.Put(x)
	}
	for _, want := range []int{3, 4, 5} {
		if x, ok := h.Take(); x != want || !ok {
			t.Errorf("Take: %d, %t, want %d", x, ok, want)
		}
	}
	drains(t, "what is left", h, []int{5})
}
