package heap

import (
	"fmt"
	"math"
	"slices"
	"testing"

	"horarium/samples"
)

// row is what a heap must tell like: a plain row of things, sorted whenever one is put there.
type row[T comparable] struct {
	less   func(a, b T) bool
	things []T
}

func (r *row[T]) put(x T) {
	r.things = sorted(r.less, append(r.things, x))
}

func (r *row[T]) take() (x T, ok bool) {
	if len(r.things) > 0 {
		x, ok = r.things[0], true
		r.things = r.things[1:]
	}
	return x, ok
}

func (r *row[T]) change(x T) bool {
	_, ok := r.take()
	if ok {
		r.put(x)
	}
	return ok
}

func (r *row[T]) drop(is func(x T) bool) int {
	n := len(r.things)
	r.things = slices.DeleteFunc(slices.Clone(r.things), is)
	return n - len(r.things)
}

// both does one drawn call of a heap, and of a row, and looks at what they tell; more is how much likelier it is to put than to take.
func both[T comparable](t *testing.T, what string, h *Heap[T], r *row[T], draw func(n int64) int64, more int64, thing func() T) {
	t.Helper()
	switch k := draw(14 + more); {
	case k < 4:
		x, ok := h.Take()
		if y, must := r.take(); x != y || ok != must {
			t.Fatalf("%s: Take: %v, %t, want %v, %t", what, x, ok, y, must)
		}
	case k < 8:
		x := thing()
		if ok, must := h.Change(x), r.change(x); ok != must {
			t.Fatalf("%s: Change(%v): %t, want %t", what, x, ok, must)
		}
	case k == 8:
		if n := h.Drop(nil); n != 0 {
			t.Fatalf("%s: Drop(nil): %d", what, n)
		}
	case k == 9:
		x, dropsLess := thing(), draw(4) == 0
		is := func(y T) bool { return x == y || dropsLess && r.less(y, x) }
		if n, must := h.Drop(is), r.drop(is); n != must {
			t.Fatalf("%s: Drop: %d, want %d", what, n, must)
		}
	default:
		x := thing()
		r.put(x)
		if !h.Put(x) {
			t.Fatalf("%s: Put(%v): false", what, x)
		}
	}
}

// goes holds a heap of that order against a row, over drawn calls.
func goes[T comparable](t *testing.T, what string, less func(a, b T) bool, draw func(n int64) int64, more int64, thing func() T) {
	t.Helper()
	h, r := New(less), &row[T]{less: less}
	for i := range 150 {
		what := fmt.Sprintf("%s, call %d", what, i)
		both(t, what, h, r, draw, more, thing)
		has(t, what, h, r.things)
		if t.Failed() {
			t.Fatalf("%s: it goes wrong here", what)
		}
	}
	drains(t, what+", in the end", h, r.things)
}

func TestDrawnCalls(t *testing.T) { // P16.1, P16.2
	for seed := range 200 {
		draw := samples.Drawing(seed)
		more := int64(seed % 12)
		most := []int64{2, 5, 20, 1000}[seed%4]
		number := func() int { return int(draw(most)) - int(most/2) }
		goes(t, fmt.Sprint("numbers of seed ", seed), rising, draw, more, number)
		goes(t, fmt.Sprint("numbers that fall, of seed ", seed), func(a, b int) bool { return a > b }, draw, more, number)
		goes(t, fmt.Sprint("texts of seed ", seed), func(a, b string) bool { return a < b }, draw, more, func() string {
			return fmt.Sprint(draw(most))
		})
		goes(t, fmt.Sprint("jobs of seed ", seed), ahead, draw, more, func() job {
			return job{due: int(draw(3)), id: int(draw(most))}
		})
	}
}

func TestMany(t *testing.T) { // P16.2, R5
	draw := samples.Drawing(161)
	h := New(rising)
	var l []int
	for i := range 200000 {
		x := i
		switch i % 4 {
		case 1:
			x = -i
		case 2:
			x = int(draw(1 << 40))
		case 3:
			x = int(draw(100))
		}
		puts(t, h, x)
		l = append(l, x)
	}
	slices.Sort(l)
	if !slices.Equal(h.List(), l) {
		t.Error("List: not all in order")
	}
	odd := func(x int) bool { return x&1 != 0 }
	left := slices.DeleteFunc(slices.Clone(l), odd)
	if n := h.Drop(odd); n != len(l)-len(left) {
		t.Errorf("Drop: %d, want %d", n, len(l)-len(left))
	}
	for i, want := range left {
		if x, ok := h.Take(); x != want || !ok {
			t.Fatalf("Take %d: %d, %t, want %d", i, x, ok, want)
		}
	}
	drains(t, "in the end", h, nil)
}

// TestWhatIsTheSame: jobs that are the same, and are told apart by their names alone, come each as often as they were put; Min, Take and List tell them in one order.
func TestWhatIsTheSame(t *testing.T) { // P16.1
	for n := range 40 {
		h := New(ahead)
		names := map[string]int{}
		for i := range n {
			name := fmt.Sprint(i * 3 % 7)
			puts(t, h, job{due: i % 3, name: name})
			names[name]++
		}
		order := h.List()
		if k := h.Drop(func(job) bool { return false }); k != 0 {
			t.Errorf("Drop of none: %d", k)
		}
		drains(t, fmt.Sprint(n, " jobs"), h, order)
		if !slices.IsSortedFunc(order, byLess(ahead)) {
			t.Errorf("List: %v, not in order", order)
		}
		for _, x := range order {
			names[x.name]--
		}
		for name, left := range names {
			if left != 0 {
				t.Errorf("%d jobs: there are %d too few of name %s", n, left, name)
			}
		}
	}
}

// TestDropAsksOfEachOne: is may hang on what it was asked ahead.
func TestDropAsksOfEachOne(t *testing.T) { // P16.1
	h := filled(t, rising, 4, 2, 4, 1, 4, 3)
	asked := 0
	n := h.Drop(func(int) bool {
		asked++
		return asked%2 == 0
	})
	if n != 3 || asked != 6 {
		t.Errorf("Drop of every other one: %d of %d, want 3 of 6", n, asked)
	}
	drains(t, "every other one", h, []int{1, 3, 4})
}

// TestIsMayAskTheHeap: as long as is is asked, nothing is changed.
func TestIsMayAskTheHeap(t *testing.T) { // P1
	h := filled(t, rising, 6, 2, 4, 3)
	n := h.Drop(func(x int) bool {
		has(t, fmt.Sprint("amid Drop, at ", x), h, []int{2, 3, 4, 6})
		return x%2 == 0
	})
	if n != 3 {
		t.Errorf("Drop: %d, want 3", n)
	}
	drains(t, "behind Drop", h, []int{3})
}

// TestFunctionsThatPanic: a call of which less or is panics tells nothing, and changes nothing.
func TestFunctionsThatPanic(t *testing.T) { // P1
	for l := range rows(5, 1, 2, 3) {
		for at := range 12 {
			calls := math.MinInt
			h := filled(t, func(a, b int) bool {
				if calls++; calls > at {
					panic("less")
				}
				return a < b
			}, l...)
			stays(t, fmt.Sprintf("%v, less panics behind %d", l, at), h, sorted(rising, l), &calls)
		}
		h := filled(t, rising, l...)
		for at := range len(l) {
			asked := 0
			if n := h.Drop(func(int) bool {
				if asked++; asked > at {
					panic("is")
				}
				return true
			}); n != 0 {
				t.Errorf("Drop of %v with an is that panics behind %d: %d", l, at, n)
			}
			has(t, fmt.Sprintf("%v, is panics behind %d", l, at), h, sorted(rising, l))
		}
	}
}

// stays looks at the calls of a heap of these things, whose less panics if there are too many calls of it: each is done whole, or not at all.
func stays(t *testing.T, what string, h *Heap[int], want []int, calls *int) {
	t.Helper()
	r := &row[int]{less: rising, things: want}
	// done tells what call tells, with a less that may panic; what is told next is of one that does not.
	done := func(call func() bool) bool {
		*calls = 0
		ok := call()
		*calls = math.MinInt
		return ok
	}
	settled := func(name string) {
		t.Helper()
		has(t, what+": behind "+name, h, r.things)
		*calls = math.MinInt
	}
	if done(func() bool { return h.Put(2) }) {
		r.put(2)
	}
	settled("Put")
	if done(func() bool { return h.Change(3) }) {
		r.change(3)
	}
	settled("Change")
	var l []int
	if done(func() bool { l = h.List(); return len(l) > 0 }) && !slices.Equal(l, r.things) {
		t.Errorf("%s: List: %v, want %v or nothing", what, l, r.things)
	}
	settled("List")
	if done(func() bool { return h.Drop(func(x int) bool { return x == 3 }) > 0 }) {
		r.drop(func(x int) bool { return x == 3 })
	}
	settled("Drop")
	var x int
	if done(func() (ok bool) { x, ok = h.Take(); return ok }) {
		y, _ := r.take()
		tells(t, what+": Take", x, true, []int{y})
	} else if x != 0 {
		t.Errorf("%s: Take: %d, false", what, x)
	}
	settled("Take")
}

// TestALessThatIsNoOrder: each call ends, and none panics; what is there is there as often as it was put.
func TestALessThatIsNoOrder(t *testing.T) { // P1
	draw := samples.Drawing(16)
	for name, less := range map[string]func(a, b float64) bool{
		"always":  func(a, b float64) bool { return true },
		"never":   func(a, b float64) bool { return false },
		"drawn":   func(a, b float64) bool { return draw(2) == 0 },
		"not":     func(a, b float64) bool { return a != b },
		"numbers": func(a, b float64) bool { return a < b },
	} {
		h := New(less)
		for i := range 50 {
			puts(t, h, []float64{float64(i), math.NaN(), -1, math.Inf(1)}[i%4])
		}
		if l := h.List(); len(l) != 50 {
			t.Errorf("%s: List: %d things, want 50", name, len(l))
		}
		if n := h.Drop(func(x float64) bool { return x == -1 }); n != 12 {
			t.Errorf("%s: Drop: %d, want 12", name, n)
		}
		if !h.Change(-1) || h.Len() != 38 {
			t.Errorf("%s: Change: false, or %d things, want 38", name, h.Len())
		}
		for range 38 {
			if _, ok := h.Take(); !ok {
				t.Errorf("%s: Take: false", name)
			}
		}
		if x, ok := h.Take(); x != 0 || ok {
			t.Errorf("%s: Take of nothing: %v, %t", name, x, ok)
		}
	}
}

// TestCallsWithinCalls: less and is may call the heap that asks them; each call ends, and none panics.
func TestCallsWithinCalls(t *testing.T) { // P1
	for l := range rows(5, 1, 2) {
		for kind := range 5 {
			var h *Heap[int]
			inner := false
			within := func() {
				if inner {
					return
				}
				inner = true
				switch kind {
				case 0:
					h.Take()
				case 1:
					h.Put(0)
				case 2:
					h.Change(9)
				case 3:
					h.Drop(func(int) bool { return true })
				case 4:
					h.List()
				}
				inner = false
			}
			h = New(func(a, b int) bool { within(); return a < b })
			for _, x := range l {
				h.Put(x)
			}
			h.Drop(func(x int) bool { within(); return x == 1 })
			h.Change(3)
			h.Take()
			h.List()
		}
	}
}

// TestNothingIsHeldOnTo: what is there no more is not kept.
func TestNothingIsHeldOnTo(t *testing.T) {
	x := 5
	h := filled(t, func(a, b *int) bool { return *a < *b }, slices.Repeat([]*int{&x}, 9)...)
	for range 9 {
		h.Take()
		for i, kept := range h.things[len(h.things):cap(h.things)] {
			if kept != nil {
				t.Fatalf("with %d things left, the place %d behind them has one", h.Len(), i)
			}
		}
	}
}
