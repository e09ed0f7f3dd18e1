package guard

import (
	"fmt"
	"math"
	"slices"
	"testing"

	"horarium/api"
	"horarium/samples"
)

// known is what a guard must know of a number.
type known struct {
	id         int
	last, next int64
}

// ids are numbers that may be released: of any kind, the least and the greatest ones among them.
func ids() []int {
	return []int{0, 1, 2, 3, 9, 15, 16, 1023, 1024, 1 << 31, 1 << 32, 1<<32 + 1, math.MaxInt - 1, math.MaxInt, -1, -2, -1023, -1 << 31, -1 << 32, math.MinInt + 1, math.MinInt}
}

// releases looks at a Release that must be done.
func releases(t *testing.T, g *Guard, id int, period, now int64) {
	t.Helper()
	is(t, g, id, period, now, api.OK)
}

// is looks at what a Release tells.
func is(t *testing.T, g *Guard, id int, period, now int64, want api.Errno) {
	t.Helper()
	if err := g.Release(id, period, now); err != want {
		t.Fatalf("Release(%d, %d, %d): %d, want %d", id, period, now, int(err), int(want))
	}
}

// forgets looks at what a Forget tells.
func forgets(t *testing.T, g *Guard, id int, want bool) {
	t.Helper()
	if ok := g.Forget(id); ok != want {
		t.Fatalf("Forget(%d): %t, want %t", id, ok, want)
	}
}

// idsOf are the numbers of what is known, rising.
func idsOf(l []known) []int {
	var told []int
	for _, k := range l {
		told = append(told, k.id)
	}
	slices.Sort(told)
	return told
}

// tells looks at Next and Last of a number of which just this is known.
func tells(t *testing.T, what string, g *Guard, k known, there bool) {
	t.Helper()
	if next := g.Next(k.id); next != k.next {
		t.Fatalf("%s: Next(%d): %d, want %d", what, k.id, next, k.next)
	}
	if last, ok := g.Last(k.id); last != k.last || ok != there {
		t.Fatalf("%s: Last(%d): %d, %t, want %d, %t", what, k.id, last, ok, k.last, there)
	}
}

// knows looks at all that a guard tells without being changed, twice: that it knows just this, and that the numbers that were told are the caller's own.
func knows(t *testing.T, what string, g *Guard, want ...known) {
	t.Helper()
	rising := idsOf(want)
	for range 2 {
		if n := g.Len(); n != len(want) {
			t.Fatalf("%s: Len: %d, want %d", what, n, len(want))
		}
		told := g.IDs()
		if !slices.Equal(told, rising) {
			t.Fatalf("%s: IDs: %v, want %v", what, told, rising)
		}
		for _, k := range want {
			tells(t, what, g, k, true)
		}
		for _, id := range ids() {
			if !slices.Contains(rising, id) {
				tells(t, what, g, known{id: id}, false)
			}
		}
		told = told[:cap(told)]
		for i := range told {
			told[i] = 77 - i
		}
	}
}

// some is a guard that knows of three numbers, and what it knows.
func some(t *testing.T) (*Guard, []known) {
	t.Helper()
	g := New()
	releases(t, g, 3, 10, 20)
	releases(t, g, -5, 1, 0)
	releases(t, g, 40, api.MaxT, 7)
	return g, []known{{3, 20, 30}, {-5, 0, 1}, {40, 7, 7 + 1<<31}}
}

func TestNewKnowsNothing(t *testing.T) { // P17.1
	g := New()
	if g == nil {
		t.Fatal("New: nil")
	}
	knows(t, "New", g)
	for _, id := range ids() {
		forgets(t, g, id, false)
	}
	knows(t, "New, behind Forget", g)
}

func TestPeriodsThatMayBe(t *testing.T) { // P17.1
	for _, period := range samples.Spans() {
		g := New()
		releases(t, g, 7, period, 5)
		knows(t, fmt.Sprint("period ", period), g, known{7, 5, 5 + period})
	}
}

func TestPeriodsThatMayNotBe(t *testing.T) { // P17.1
	for _, period := range samples.NoSpans() {
		what := fmt.Sprint("period ", period)
		g := New()
		for _, now := range samples.Times() {
			is(t, g, 7, period, now, api.ErrArg)
		}
		knows(t, what, g)
		g, was := some(t)
		for _, id := range append(ids(), -5, 40) {
			is(t, g, id, period, 25, api.ErrArg)
			is(t, g, id, period, 1<<33, api.ErrArg)
		}
		knows(t, what, g, was...)
	}
}

func TestTimesThatMayBe(t *testing.T) { // P17.1
	for _, now := range samples.Times() {
		for _, period := range samples.Spans() {
			g := New()
			releases(t, g, 7, period, now)
			knows(t, fmt.Sprintf("at %d, period %d", now, period), g, known{7, now, now + period})
		}
	}
}

func TestTimesThatMayNotBe(t *testing.T) { // P17.1
	for _, now := range samples.NoTimes() {
		what := fmt.Sprint("at ", now)
		g := New()
		for _, period := range samples.Spans() {
			is(t, g, 7, period, now, api.ErrArg)
		}
		knows(t, what, g)
		g, was := some(t)
		for _, id := range append(ids(), -5, 40) {
			is(t, g, id, 10, now, api.ErrArg)
		}
		knows(t, what, g, was...)
	}
}

func TestPeriodAndTimeThatMayNotBe(t *testing.T) { // P17.1
	for _, period := range samples.NoSpans() {
		for _, now := range samples.NoTimes() {
			g, was := some(t)
			is(t, g, 3, period, now, api.ErrArg)
			is(t, g, 4, period, now, api.ErrArg)
			knows(t, fmt.Sprintf("at %d, period %d", now, period), g, was...)
		}
	}
}

// TestWrongIsNamedAheadOfEarly: of both errors it is the one that the promise names first.
func TestWrongIsNamedAheadOfEarly(t *testing.T) { // P17.1, R2
	g, was := some(t)
	for _, now := range []int64{0, 19, 29} {
		is(t, g, 3, 10, now, api.ErrEarly)
		for _, period := range samples.NoSpans() {
			is(t, g, 3, period, now, api.ErrArg)
		}
	}
	is(t, g, 3, 10, -1, api.ErrArg)
	knows(t, "wrong and early", g, was...)
}

// TestFirstRelease: one of which nothing is known is let at any time, whatever is known of others.
func TestFirstRelease(t *testing.T) { // P17.1
	for _, id := range ids() {
		for _, now := range samples.Times() {
			what := fmt.Sprintf("%d at %d", id, now)
			g := New()
			releases(t, g, id, 6, now)
			knows(t, what, g, known{id, now, now + 6})
			other := id ^ 5
			releases(t, g, other, 9, samples.Last-now)
			knows(t, what+", and another one", g, known{id, now, now + 6}, known{other, samples.Last - now, samples.Last - now + 9})
		}
	}
}

func TestSecondRelease(t *testing.T) { // P17.1, P17.2
	for _, id := range ids() {
		for _, period := range samples.Spans() {
			for _, first := range []int64{0, 1, 5, 1 << 31, samples.Last - 1<<32} {
				next := first + period
				for _, now := range []int64{0, first - 1, first, first + 1, next - 1, next, next + 1, next + period, samples.Last - 1, samples.Last} {
					if now >= 0 {
						second(t, id, period, first, now)
					}
				}
			}
		}
	}
}

// second looks at two releases of a number, of one period.
func second(t *testing.T, id int, period, first, now int64) {
	t.Helper()
	what := fmt.Sprintf("%d at %d and at %d, period %d", id, first, now, period)
	g := New()
	releases(t, g, id, period, first)
	if now < first+period {
		is(t, g, id, period, now, api.ErrEarly)
		knows(t, what, g, known{id, first, first + period})
		return
	}
	releases(t, g, id, period, now)
	knows(t, what, g, known{id, now, now + period})
}

// TestReleasesAtTheEnd: behind the greatest time there is Next, but no release.
func TestReleasesAtTheEnd(t *testing.T) { // P17.1
	for _, period := range samples.Spans() {
		g := New()
		releases(t, g, 1, period, samples.Last-period)
		releases(t, g, 1, period, samples.Last)
		knows(t, "at the end", g, known{1, samples.Last, samples.Last + period})
		is(t, g, 1, period, samples.Last, api.ErrEarly)
		is(t, g, 1, period, samples.Last+period, api.ErrArg)
		knows(t, "behind the end", g, known{1, samples.Last, samples.Last + period})
	}
}

// TestAnotherPeriod: how far the next release is hangs on the period of the one that was let, not on those of others, or of its own.
func TestAnotherPeriod(t *testing.T) { // P17.1, P17.2
	g := New()
	releases(t, g, 8, 10, 100)
	is(t, g, 8, 1, 109, api.ErrEarly)
	is(t, g, 8, api.MaxT, 109, api.ErrEarly)
	knows(t, "behind two that were early", g, known{8, 100, 110})
	releases(t, g, 8, 3, 110)
	knows(t, "of a less period", g, known{8, 110, 113})
	is(t, g, 8, 3, 112, api.ErrEarly)
	releases(t, g, 8, 50, 113)
	knows(t, "of a greater period", g, known{8, 113, 163})
	is(t, g, 8, 1, 162, api.ErrEarly)
	releases(t, g, 8, 1, 200)
	releases(t, g, 8, 1, 201)
	knows(t, "of the least period", g, known{8, 201, 202})
}

func TestAnotherPeriodOfAllKinds(t *testing.T) { // P17.1, P17.2
	for _, one := range samples.Spans() {
		for _, other := range samples.Spans() {
			what := fmt.Sprintf("period %d, then %d", one, other)
			g := New()
			releases(t, g, 8, one, 1)
			is(t, g, 8, other, one, api.ErrEarly)
			knows(t, what, g, known{8, 1, 1 + one})
			releases(t, g, 8, other, 1+one)
			knows(t, what, g, known{8, 1 + one, 1 + one + other})
		}
	}
}

// TestEarlyChangesNothing: neither of the number that is early, nor of others.
func TestEarlyChangesNothing(t *testing.T) { // P17.1
	g, was := some(t)
	for _, k := range was {
		for _, now := range []int64{0, k.last / 2, k.last, k.next / 2, k.next - 1} {
			for _, period := range samples.Spans() {
				is(t, g, k.id, period, now, api.ErrEarly)
			}
			knows(t, fmt.Sprintf("%d early at %d", k.id, now), g, was...)
		}
	}
	for _, k := range was {
		releases(t, g, k.id, 1, k.next)
	}
}

func TestForgetOfWhatIsKnown(t *testing.T) { // P17.1
	_, all := some(t)
	for i, k := range all {
		what := fmt.Sprint("Forget of ", k.id)
		g, was := some(t)
		is(t, g, k.id, 2, k.last, api.ErrEarly)
		forgets(t, g, k.id, true)
		rest := slices.Delete(slices.Clone(was), i, i+1)
		tells(t, what, g, known{id: k.id}, false)
		knows(t, what, g, rest...)
		forgets(t, g, k.id, false)
		knows(t, what+" twice", g, rest...)
		// It is as one that was never released: at once, and ahead of its last release, too.
		for _, now := range []int64{k.last, 0} {
			releases(t, g, k.id, 4, now)
			knows(t, what+", and Release", g, append(rest, known{k.id, now, now + 4})...)
			is(t, g, k.id, 4, now+3, api.ErrEarly)
			forgets(t, g, k.id, true)
		}
		knows(t, what+", and again", g, rest...)
	}
}

func TestForgetOfWhatIsNotKnown(t *testing.T) { // P17.1
	g, was := some(t)
	for _, id := range ids() {
		if !slices.Contains(idsOf(was), id) {
			forgets(t, g, id, false)
			forgets(t, g, id, false)
			knows(t, fmt.Sprint("Forget of ", id), g, was...)
		}
	}
}

// TestForgetOfARefusedOne: what was not let is not known.
func TestForgetOfARefusedOne(t *testing.T) { // P17.1
	g := New()
	is(t, g, 6, 0, 5, api.ErrArg)
	is(t, g, 6, 5, -1, api.ErrArg)
	forgets(t, g, 6, false)
	knows(t, "behind Forget", g)
}

func TestForgetOfAll(t *testing.T) { // P17.1
	g, was := some(t)
	for _, k := range was {
		forgets(t, g, k.id, true)
	}
	knows(t, "behind Forget of all", g)
	releases(t, g, 2, 5, 9)
	knows(t, "and one more", g, known{2, 9, 14})
}

// TestIDs: they rise, whichever order they were released in, each once.
func TestIDs(t *testing.T) { // P17.1
	draw := samples.Drawing(17)
	up := ids()
	slices.Sort(up)
	down := slices.Clone(up)
	slices.Reverse(down)
	orders := [][]int{nil, {5}, {0}, {-7}, {2, 1}, {1, 2}, {1, -1}, {-1, -2}, ids(), up, down}
	for range 50 {
		mixed := ids()
		for i := range mixed {
			j := int(draw(int64(i + 1)))
			mixed[i], mixed[j] = mixed[j], mixed[i]
		}
		orders = append(orders, mixed[:draw(int64(len(mixed)+1))])
	}
	for _, l := range orders {
		g := New()
		var must []known
		for i, id := range l {
			releases(t, g, id, 2, int64(i))
			must = append(must, known{id, int64(i), int64(i) + 2})
			knows(t, fmt.Sprint(l[:i+1]), g, must...)
		}
		for i, id := range l {
			releases(t, g, id, 3, 100)
			must[i] = known{id, 100, 103}
		}
		knows(t, fmt.Sprint("each once more: ", l), g, must...)
	}
}

func TestIDsAreTheCallersOwn(t *testing.T) { // P17.1, R3
	g, was := some(t)
	one, other := g.IDs(), g.IDs()
	one[0], one[2] = 3, 4
	if !slices.Equal(other, []int{-5, 3, 40}) {
		t.Errorf("IDs: two that were told share what they have: %v", other)
	}
	knows(t, "behind a change of IDs", g, was...)
	kept := g.IDs()
	forgets(t, g, 3, true)
	releases(t, g, 1, 1, 0)
	releases(t, g, 2, 1, 0)
	if !slices.Equal(kept, []int{-5, 3, 40}) {
		t.Errorf("IDs: what was told is %v when the guard has changed", kept)
	}
}

func TestTwoGuards(t *testing.T) { // P17.1
	a, b := New(), New()
	releases(t, a, 1, 10, 50)
	knows(t, "the other", b)
	releases(t, b, 1, 3, 2)
	releases(t, b, 2, 4, 60)
	knows(t, "the one", a, known{1, 50, 60})
	is(t, a, 1, 1, 59, api.ErrEarly)
	releases(t, b, 1, 1, 59)
	knows(t, "the one", a, known{1, 50, 60})
	forgets(t, a, 2, false)
	forgets(t, a, 1, true)
	knows(t, "the one", a)
	knows(t, "the other", b, known{1, 59, 60}, known{2, 60, 64})
}

func TestNilGuard(t *testing.T) { // the sentence behind the promises
	var g *Guard
	for range 2 {
		for _, id := range ids() {
			is(t, g, id, 5, 5, api.ErrArg)
			is(t, g, id, 0, 5, api.ErrArg)
			is(t, g, id, 5, -1, api.ErrArg)
			is(t, g, id, 1, 0, api.ErrArg)
			is(t, g, id, api.MaxT, samples.Last, api.ErrArg)
			forgets(t, g, id, false)
		}
		knows(t, "a nil guard", g)
	}
}

// TestZeroGuard: a zero one knows nothing, as a new one, and may be used as one.
func TestZeroGuard(t *testing.T) { // P1, P17.1
	var g Guard
	knows(t, "a zero guard", &g)
	for _, id := range ids() {
		forgets(t, &g, id, false)
		is(t, &g, id, 0, 5, api.ErrArg)
		is(t, &g, id, 5, -1, api.ErrArg)
	}
	knows(t, "a zero guard, behind calls", &g)
	releases(t, &g, 4, 5, 6)
	is(t, &g, 4, 5, 10, api.ErrEarly)
	knows(t, "a zero guard, behind Release", &g, known{4, 6, 11})
	forgets(t, &g, 4, true)
	knows(t, "a zero guard, behind Forget", &g)
}

func TestExample(t *testing.T) { // the chapter's
	g := New()
	a, b, c := g.Release(1, 5, 3), g.Release(1, 5, 7), g.Release(1, 5, 8)
	if a != api.OK || b != api.ErrEarly || c != api.OK {
		t.Errorf("Release: %d, %d, %d, want 0, 19, 0", int(a), int(b), int(c))
	}
	knows(t, "behind the example", g, known{1, 8, 13})
}
