package demand

import (
	"math"
	"slices"
	"testing"

	"horarium/api"
	"horarium/samples"
)

// last is the greatest time that there is.
const last = samples.Last

// named are tasks of these C, D and T.
var named = samples.Named

// light is a row of tasks that may be, of little work each, so that many such rows fit, or nearly do.
func light(draw func(n int64) int64) []api.Task {
	l := samples.Drawn(draw, 4, 3, 16)
	for i := range l {
		l[i].C = 1 + draw(max(1, l[i].D/3))
	}
	return l
}

// each goes over the deadlines of t up to x, one by one.
func each(t api.Task, x int64) func(yield func(d int64) bool) {
	return func(yield func(d int64) bool) {
		for d := t.D; d <= x && yield(d); d += t.T {
		}
	}
}

// counted is the work of l up to x, deadline by deadline.
func counted(l []api.Task, x int64) int64 {
	work := int64(0)
	for _, t := range l {
		for range each(t, x) {
			work += t.C
		}
	}
	return work
}

// gathered are all deadlines of l up to x, rising, each once.
func gathered(l []api.Task, x int64) []int64 {
	var all []int64
	for _, t := range l {
		all = slices.AppendSeq(all, each(t, x))
	}
	slices.Sort(all)
	return slices.Compact(all)
}

// exceeded is the least time up to most, and up to the 4096th deadline, at which more is counted than it: time by time.
func exceeded(l []api.Task, most int64) (int64, bool) {
	all := gathered(l, most)
	if len(all) > 4096 {
		most = all[4095]
	}
	for x := int64(1); x <= most; x++ {
		if counted(l, x) > x {
			return x, true
		}
	}
	return 0, false
}

// isNone looks at what is told where there is nothing.
func isNone(t *testing.T, l []api.Task, x int64) {
	t.Helper()
	if got := Of(l, x); got != 0 {
		t.Errorf("Of(%v, %d): %d, want 0", l, x, got)
	}
	if got, ok := Next(l, x); got != 0 || ok {
		t.Errorf("Next(%v, %d): %d %v, want 0 false", l, x, got, ok)
	}
	if got, ok := Before(l, x); got != 0 || ok {
		t.Errorf("Before(%v, %d): %d %v, want 0 false", l, x, got, ok)
	}
	if got, ok := First(l, x); got != 0 || ok {
		t.Errorf("First(%v, %d): %d %v, want 0 false", l, x, got, ok)
	}
	if got := Points(l, x); len(got) != 0 {
		t.Errorf("Points(%v, %d): %d of them, want none", l, x, len(got))
	}
}

// isTold looks at what Next, Before or First tells: want, or nothing if want is 0.
func isTold(t *testing.T, call string, l []api.Task, x, want, got int64, ok bool) {
	t.Helper()
	if got != want || ok != (want != 0) {
		t.Errorf("%s(%v, %d): %d %v, want %d", call, l, x, got, ok, want)
	}
}

// isFirst looks at what First tells: want, or nothing if want is 0.
func isFirst(t *testing.T, l []api.Task, most, want int64) {
	t.Helper()
	got, ok := First(l, most)
	isTold(t, "First", l, most, want, got, ok)
}

// arePoints looks at what Points tells.
func arePoints(t *testing.T, l []api.Task, most int64, want ...int64) {
	t.Helper()
	if got := Points(l, most); !slices.Equal(got, want) {
		t.Errorf("Points(%v, %d): %v, want %v", l, most, got, want)
	}
}

func TestTheChaptersExample(t *testing.T) { // P10.1
	l := named(1, 2, 3)
	for x, want := range map[int64]int64{2: 1, 4: 1, 5: 2} {
		if got := One(l[0], x); got != want {
			t.Errorf("One at %d: %d, want %d", x, got, want)
		}
		if got := Of(l, x); got != want {
			t.Errorf("Of at %d: %d, want %d", x, got, want)
		}
	}
}

func TestTheExamplesOfTheWhole(t *testing.T) { // P10.2
	isFirst(t, named(2, 3, 5, 2, 4, 6), last, 0)
	isFirst(t, named(3, 3, 5, 2, 4, 6), last, 4)
}

func TestOneAtItsEdges(t *testing.T) { // P10.1
	const most = 1 << 31
	cases := []struct{ c, d, t, x, want int64 }{
		{2, 3, 5, 0, 0}, {2, 3, 5, 1, 0}, {2, 3, 5, 2, 0}, {2, 3, 5, 3, 2}, {2, 3, 5, 4, 2},
		{2, 3, 5, 5, 2}, {2, 3, 5, 7, 2}, {2, 3, 5, 8, 4}, {2, 3, 5, 9, 4}, {2, 3, 5, 12, 4}, {2, 3, 5, 13, 6},
		{4, 4, 4, 3, 0}, {4, 4, 4, 4, 4}, {4, 4, 4, 5, 4}, {4, 4, 4, 7, 4}, {4, 4, 4, 8, 8}, {4, 4, 4, 9, 8},
		{1, 1, 4, 0, 0}, {1, 1, 4, 1, 1}, {1, 1, 4, 4, 1}, {1, 1, 4, 5, 2}, {1, 1, 4, 6, 2},
		{2, 3, 5, last, 439804651110}, {2, 3, 5, last - 1, 439804651110}, {2, 3, 5, last - 4, 439804651108},

		{1, 1, 1, 0, 0}, {1, 1, 1, 1, 1}, {1, 1, 1, 2, 2}, {1, 1, 1, last - 1, last - 1}, {1, 1, 1, last, last},
		{most, most, most, 0, 0}, {most, most, most, most - 1, 0}, {most, most, most, most, most}, {most, most, most, most + 1, most},
		{most, most, most, 2*most - 1, most}, {most, most, most, 2 * most, 2 * most}, {most, most, most, 2*most + 1, 2 * most},
		{most, most, most, last - 1, last - most}, {most, most, most, last, last},
		{1, most, most, most - 1, 0}, {1, most, most, most, 1}, {1, most, most, last - 1, 511}, {1, most, most, last, 512},
		{1, 1, most, 0, 0}, {1, 1, most, 1, 1}, {1, 1, most, most, 1}, {1, 1, most, most + 1, 2}, {1, 1, most, most + 2, 2}, {1, 1, most, last, 512},
		{most - 1, most - 1, most, most - 2, 0}, {most - 1, most - 1, most, most - 1, most - 1}, {most - 1, most - 1, most, last, 512 * (most - 1)},
	}
	for _, c := range cases {
		task := api.Task{ID: 3, C: c.c, D: c.d, T: c.t, Modes: 2}
		if got := One(task, c.x); got != c.want {
			t.Errorf("One(%v, %d): %d, want %d", task, c.x, got, c.want)
		}
		if got := Of([]api.Task{task}, c.x); got != c.want {
			t.Errorf("Of(%v, %d): %d, want %d", task, c.x, got, c.want)
		}
	}
}

func TestOneDoesNotHangOnIDAndModes(t *testing.T) { // P10.1
	for _, id := range []int{0, 1, 1023} {
		for _, modes := range []int{1, 2, 8, 15} {
			if got := One(api.Task{ID: id, C: 2, D: 3, T: 5, Modes: modes}, 8); got != 4 {
				t.Errorf("One of ID %d in modes %d: %d, want 4", id, modes, got)
			}
		}
	}
}

func TestOneOfATaskThatMayNotBe(t *testing.T) { // P10.1, P1
	for _, bad := range samples.Wrong() {
		for _, x := range slices.Concat(samples.Times(), samples.NoTimes()) {
			if got := One(bad, x); got != 0 {
				t.Errorf("One(%v, %d): %d, want 0", bad, x, got)
			}
		}
	}
}

func TestOneAtWhatIsNoTime(t *testing.T) { // P10.1, P1
	for _, task := range named(1, 1, 1, 1, 2, 3, 1, 1, 1<<31, 1<<31, 1<<31, 1<<31) {
		for _, x := range samples.NoTimes() {
			if got := One(task, x); got != 0 {
				t.Errorf("One(%v, %d): %d, want 0", task, x, got)
			}
		}
	}
}

func TestOfAtItsEdges(t *testing.T) { // P10.1, R1
	second := api.Task{ID: 7, C: 1, D: 1, T: 1, Modes: 1}
	cases := []struct {
		l       []api.Task
		x, want int64
	}{
		{nil, 0, 0}, {nil, 5, 0}, {nil, last, 0}, {[]api.Task{}, 5, 0},
		{named(2, 3, 5), 2, 0}, {named(2, 3, 5), 3, 2}, {named(2, 3, 5), 13, 6},
		{named(2, 3, 5, 2, 4, 6), 3, 2}, {named(2, 3, 5, 2, 4, 6), 4, 4}, {named(2, 3, 5, 2, 4, 6), 8, 6}, {named(2, 3, 5, 2, 4, 6), 10, 8},
		{samples.Same(2, second), 9, 18},
		{[]api.Task{second, {ID: 7, C: 3, D: 4, T: 5, Modes: 8}}, 9, 15},
		{samples.Same(15, second), 3, 45}, {samples.Same(16, second), 3, 48}, {samples.Same(17, second), 3, 0},
		{append(samples.Same(15, second), named(2, 3, 5)...), 3, 47},
		{samples.Same(16, second), last, 1 << 44}, {samples.Same(16, second), last - 1, 1<<44 - 16},
		{samples.Same(16, api.Task{ID: 1, C: 1 << 31, D: 1 << 31, T: 1 << 31, Modes: 15}), last, 1 << 44},
		{samples.Same(16, api.Task{ID: 1, C: 1 << 31, D: 1 << 31, T: 1 << 31, Modes: 15}), last - 1, 1<<44 - 1<<35},
	}
	for _, c := range cases {
		if got := Of(c.l, c.x); got != c.want {
			t.Errorf("Of(%v, %d): %d, want %d", c.l, c.x, got, c.want)
		}
	}
}

func TestRowsThatMayNotBeHaveNothing(t *testing.T) { // P10.1, P10.2, P1, R2
	for _, l := range samples.Refused() {
		for _, x := range slices.Concat(samples.Times(), samples.NoTimes()) {
			isNone(t, l, x)
		}
	}
}

func TestNothingIsToldOfWhatIsNoTime(t *testing.T) { // P10.1, P10.2, P1
	once := api.Task{ID: 0, C: 1, D: 1, T: 1, Modes: 1}
	great := api.Task{ID: 1, C: 1 << 31, D: 1 << 31, T: 1 << 31, Modes: 1}
	for _, l := range [][]api.Task{nil, {}, {once}, {great}, {once, great}, samples.Same(16, once), samples.Same(16, great)} {
		for _, x := range samples.NoTimes() {
			isNone(t, l, x)
		}
	}
}

func TestThereIsNothingOfNoTasks(t *testing.T) { // P10.1, P10.2, R1
	for _, x := range samples.Times() {
		isNone(t, nil, x)
		isNone(t, []api.Task{}, x)
	}
}

func TestNextAndBeforeAtTheirEdges(t *testing.T) { // P10.2
	const most = 1 << 31
	one, many := named(2, 3, 5), named(1, 2, 3, 1, 4, 6)
	alike := append(named(1, 2, 4, 2, 2, 4), named(1, 4, 8)...)
	great := named(1, most, most)
	cases := []struct {
		l               []api.Task
		x, next, before int64
	}{
		{one, 0, 3, 0}, {one, 1, 3, 0}, {one, 2, 3, 0}, {one, 3, 8, 0}, {one, 4, 8, 3},
		{one, 7, 8, 3}, {one, 8, 13, 3}, {one, 9, 13, 8}, {one, 12, 13, 8}, {one, 13, 18, 8}, {one, 14, 18, 13},
		{named(1, 1, 1), 0, 1, 0}, {named(1, 1, 1), 1, 2, 0}, {named(1, 1, 1), 2, 3, 1}, {named(1, 1, 1), 9, 10, 8},

		// Its deadlines are 2 4 5 8 10 11 14 16 17.
		{many, 0, 2, 0}, {many, 1, 2, 0}, {many, 2, 4, 0}, {many, 3, 4, 2}, {many, 4, 5, 2}, {many, 5, 8, 4}, {many, 6, 8, 5},
		{many, 7, 8, 5}, {many, 8, 10, 5}, {many, 9, 10, 8}, {many, 10, 11, 8}, {many, 11, 14, 10}, {many, 15, 16, 14}, {many, 16, 17, 14},
		{alike, 0, 2, 0}, {alike, 2, 4, 0}, {alike, 3, 4, 2}, {alike, 4, 6, 2}, {alike, 5, 6, 4}, {alike, 6, 10, 4}, {alike, 11, 12, 10},

		{named(1, 1, 1), last - 2, last - 1, last - 3}, {named(1, 1, 1), last - 1, last, last - 2}, {named(1, 1, 1), last, 0, last - 1},
		{great, 0, most, 0}, {great, most - 1, most, 0}, {great, most, 2 * most, 0}, {great, most + 1, 2 * most, most},
		{great, last - most - 1, last - most, last - 2*most}, {great, last - most, last, last - 2*most}, {great, last - most + 1, last, last - most},
		{great, last - 1, last, last - most}, {great, last, 0, last - most},
		{named(1, 1, most), 0, 1, 0}, {named(1, 1, most), 1, most + 1, 0}, {named(1, 1, most), 2, most + 1, 1},
		{named(1, 1, most), last - most, last - most + 1, last - 2*most + 1}, {named(1, 1, most), last - most + 1, 0, last - 2*most + 1},
		{named(1, 1, most), last - 1, 0, last - most + 1}, {named(1, 1, most), last, 0, last - most + 1},
		{named(1, most-1, most), last - 2, last - 1, last - most - 1}, {named(1, most-1, most), last - 1, 0, last - most - 1}, {named(1, most-1, most), last, 0, last - 1},
		// The next one of the first is above the last time, that of the second is not, and the other way round.
		{named(1, 1, most, 1, most, most), last - 1, last, last - most + 1},
		{named(1, most, most, 1, 1, most), last - 1, last, last - most + 1},
		{named(1, 1, most, 1, most, most), last, 0, last - most + 1},
	}
	for _, c := range cases {
		got, ok := Next(c.l, c.x)
		isTold(t, "Next", c.l, c.x, c.next, got, ok)
		got, ok = Before(c.l, c.x)
		isTold(t, "Before", c.l, c.x, c.before, got, ok)
	}
}

func TestBeforeAtTheFirstDeadlineOfAll(t *testing.T) { // P10.2
	draw := samples.Drawing(1)
	for range 500 {
		l := samples.Drawn(draw, 16, 1, 1<<31)
		if len(l) == 0 {
			continue
		}
		first := l[0].D
		for _, task := range l {
			first = min(first, task.D)
		}
		got, ok := Before(l, first)
		isTold(t, "Before", l, first, 0, got, ok)
		got, ok = Before(l, first+1)
		isTold(t, "Before", l, first+1, first, got, ok)
		got, ok = Next(l, first-1)
		isTold(t, "Next", l, first-1, first, got, ok)
		got, ok = Next(l, 0)
		isTold(t, "Next", l, 0, first, got, ok)
	}
}

func TestPointsAtTheirEdges(t *testing.T) { // P10.2
	const most = 1 << 31
	one, many := named(2, 3, 5), named(1, 2, 3, 1, 4, 6)
	arePoints(t, one, 0)
	arePoints(t, one, 2)
	arePoints(t, one, 3, 3)
	arePoints(t, one, 4, 3)
	arePoints(t, one, 7, 3)
	arePoints(t, one, 8, 3, 8)
	arePoints(t, one, 9, 3, 8)
	arePoints(t, one, 23, 3, 8, 13, 18, 23)
	arePoints(t, many, 0)
	arePoints(t, many, 1)
	arePoints(t, many, 2, 2)
	arePoints(t, many, 3, 2)
	arePoints(t, many, 4, 2, 4)
	arePoints(t, many, 17, 2, 4, 5, 8, 10, 11, 14, 16, 17)
	arePoints(t, named(1, 4, 6, 1, 2, 3), 17, 2, 4, 5, 8, 10, 11, 14, 16, 17)

	// Where two or more have the same deadline it is told once.
	arePoints(t, named(1, 2, 4, 1, 2, 4), 10, 2, 6, 10)
	arePoints(t, named(1, 2, 4, 2, 2, 8), 10, 2, 6, 10)
	arePoints(t, named(1, 2, 2, 1, 3, 3), 12, 2, 3, 4, 6, 8, 9, 10, 12)
	arePoints(t, samples.Same(16, one[0]), 13, 3, 8, 13)

	arePoints(t, named(1, 1, most), 0)
	arePoints(t, named(1, 1, most), 1, 1)
	arePoints(t, named(1, 1, most), most, 1)
	arePoints(t, named(1, 1, most), most+1, 1, most+1)
	arePoints(t, named(1, most, most), most-1)
	arePoints(t, named(1, most, most), most, most)
}

func TestPointsAreAtMost4096(t *testing.T) { // P10.2
	rows := [][]api.Task{
		named(1, 1, 1), named(1, 2, 3), named(1, 2, 2, 1, 2, 2), named(1, 2, 2, 1, 3, 3), named(1, 1, 2, 1, 2, 2),
		samples.Same(16, api.Task{ID: 1, C: 1, D: 1, T: 1, Modes: 1}), named(1, 1, 7, 1, 4, 9, 1, 2, 11, 1, 1, 13, 1, 9, 9),
	}
	for _, l := range rows {
		all := gathered(l, 20000)
		if len(all) < 5000 {
			t.Fatalf("%v has just %d deadlines", l, len(all))
		}
		for _, n := range []int{1, 2, 4094, 4095, 4096, 4097, 4098, 4999} {
			want := all[:min(n, 4096)]
			arePoints(t, l, all[n-1], want...)
			arePoints(t, l, all[n]-1, want...)
		}
		for _, most := range []int64{1 << 31, last - 1, last} {
			arePoints(t, l, most, all[:4096]...)
		}
		for _, most := range samples.NoTimes() {
			arePoints(t, l, most)
		}
	}
}

func TestPointsUpToTheLastTime(t *testing.T) { // P10.2
	const most = 1 << 31
	for _, l := range [][]api.Task{
		named(1, most, most), named(1, 1, most), named(1, most-1, most), named(1, most, most, 1, 1, most),
		named(1, 1<<29, 1<<29, 1, 3, 1<<29), named(1, 1<<28, 1<<28), named(1, 1<<28-1, 1<<28), named(1, 1<<28, 1<<28, 1, 1, most),
	} {
		all := gathered(l, last)
		arePoints(t, l, last, all[:min(len(all), 4096)]...)
		all = gathered(l, last-1)
		arePoints(t, l, last-1, all[:min(len(all), 4096)]...)
		arePoints(t, l, last+1)
	}
	// 4096 of them, the greatest of which is the last time itself, or one of 4097 that is left out.
	if got := Points(named(1, 1<<28, 1<<28), last); len(got) != 4096 || got[4095] != last {
		t.Errorf("%d points up to the last time", len(got))
	}
	if got := Points(named(1, 1<<28, 1<<28, 1, 1, most), last); len(got) != 4096 || got[4095] == last {
		t.Errorf("%d points of some more up to the last time", len(got))
	}
}

func TestFirstAtItsEdges(t *testing.T) { // P10.2
	const most = 1 << 31
	fits := [][]api.Task{
		named(1, 1, 1), named(2, 3, 5, 2, 4, 6), named(1, 2, 2, 1, 3, 3, 1, 6, 6), named(1, 2, 2, 1, 2, 2), samples.Same(16, api.Task{ID: 1, C: 1, D: 16, T: 16, Modes: 1}),
		named(most, most, most), named(most-1, most, most, 1, most, most), named(1, 1, 2, 1, 2, 2),
	}
	for _, l := range fits {
		for _, x := range samples.Times() {
			isFirst(t, l, x, 0)
		}
	}

	// The first deadline, and at most and one above it.
	for _, l := range [][]api.Task{named(1, 1, 9, 1, 1, 9), samples.Same(16, api.Task{ID: 1, C: 1, D: 1, T: most, Modes: 1})} {
		isFirst(t, l, 0, 0)
		isFirst(t, l, 1, 1)
		isFirst(t, l, 2, 1)
		isFirst(t, l, last, 1)
		isFirst(t, l, last+1, 0)
		isFirst(t, l, math.MaxInt64, 0)
		isFirst(t, l, -1, 0)
	}
	isFirst(t, named(most, most, most, 1, most, most), most-1, 0)
	isFirst(t, named(most, most, most, 1, most, most), most, most)
	isFirst(t, named(most, most, most, 1, most, most), last, most)

	// A later one.
	isFirst(t, named(3, 3, 5, 2, 4, 6), 3, 0)
	isFirst(t, named(3, 3, 5, 2, 4, 6), 4, 4)
	isFirst(t, named(3, 3, 5, 2, 4, 6), 5, 4)
	isFirst(t, named(1, 2, 2, 1, 3, 3, 1, 5, 5), 29, 0)
	isFirst(t, named(1, 2, 2, 1, 3, 3, 1, 5, 5), 30, 30)
	isFirst(t, named(1, 2, 2, 1, 3, 3, 1, 5, 5), 31, 30)
	isFirst(t, named(1, 2, 2, 1, 3, 3, 1, 5, 5), last, 30)
}

func TestFirstAtTheLastTime(t *testing.T) { // P10.2
	// The first task leaves one slot of each 2^31, of which there are 512 up to the last time; the second one's 513th deadline is less than 513 ahead of that.
	l := named(1<<31-1, 1<<31, 1<<31, 1, last/513, last/513)
	isFirst(t, l, last-1, 0)
	isFirst(t, l, last, last)
	isFirst(t, l, last+1, 0)
	// One slot of each 2^31 is just enough for 512 of them.
	l = named(1<<31-1, 1<<31, 1<<31, 1, 1<<31, 1<<31)
	isFirst(t, l, last, 0)
	if work := Of(l, last); work != last {
		t.Errorf("Of(%v) at the last time: %d, want all of it", l, work)
	}
}

func TestOnlyTheFirst4096DeadlinesCount(t *testing.T) { // P10.2
	const most = 1 << 31
	// The first task leaves no time, so that there is too much work at the first deadline of the other one.
	for _, step := range []int64{1, 2, 5} {
		full := api.Task{ID: 1, C: step, D: step, T: step, Modes: 1}
		for _, n := range []int64{1, 2, 4095, 4096} {
			x := n * step
			l := []api.Task{full, {ID: 9, C: 1, D: x, T: most, Modes: 1}}
			isFirst(t, l, x-1, 0)
			isFirst(t, l, x, x)
			isFirst(t, l, x+1, x)
			isFirst(t, l, last, x)
		}
		for _, n := range []int64{4097, 4098, 5000, 100000} {
			l := []api.Task{full, {ID: 9, C: 1, D: n * step, T: most, Modes: 1}}
			isFirst(t, l, n*step, 0)
			isFirst(t, l, last, 0)
		}
	}
	// A deadline of many tasks counts once.
	l := append(samples.Same(8, api.Task{ID: 1, C: 1, D: 8, T: 8, Modes: 1}), api.Task{ID: 9, C: 1, D: 8 * 4096, T: most, Modes: 1})
	isFirst(t, l, last, 8*4096)
	l[8].D = 8 * 4097
	isFirst(t, l, last, 0)
}

func TestAllCallsAreAsAPlainCountTells(t *testing.T) { // P10.1, P10.2
	draw := samples.Drawing(2)
	found, fit := 0, 0
	for i := range 3000 {
		l := light(draw)
		if i%3 == 0 {
			l = samples.Drawn(draw, 16, 1, 24)
		}
		isCounted(t, l, 60)
		if _, ok := First(l, 200); ok {
			found++
		} else {
			fit++
		}
		want, ok := exceeded(l, 200)
		if got, is := First(l, 200); got != want || is != ok {
			t.Errorf("First(%v, 200): %d %v, want %d %v", l, got, is, want, ok)
		}
	}
	if found < 300 || fit < 300 {
		t.Errorf("of %d rows there is too much work, of %d there is not: too few of one kind", found, fit)
	}
}

// isCounted holds the calls at all times up to x, of tasks that may be, against a plain count.
func isCounted(t *testing.T, l []api.Task, x int64) {
	t.Helper()
	all := gathered(l, 3*x)
	before := int64(0)
	for y := range x + 1 {
		at, isOne := slices.BinarySearch(all, y)
		next := int64(0)
		for _, d := range all {
			if d > y {
				next = d
				break
			}
		}
		if got, want := Of(l, y), counted(l, y); got != want {
			t.Errorf("Of(%v, %d): %d, want %d", l, y, got, want)
		}
		for _, task := range l {
			if got, want := One(task, y), counted([]api.Task{task}, y); got != want {
				t.Errorf("One(%v, %d): %d, want %d", task, y, got, want)
			}
		}
		got, ok := Next(l, y)
		isTold(t, "Next", l, y, next, got, ok)
		got, ok = Before(l, y)
		isTold(t, "Before", l, y, before, got, ok)
		if isOne {
			at++
			before = y
		}
		arePoints(t, l, y, all[:at]...)
		want, _ := exceeded(l, y)
		isFirst(t, l, y, want)
	}
}

func TestGreatTasksAreAsAPlainCountTells(t *testing.T) { // P10.1, P10.2
	draw := samples.Drawing(3)
	for range 60 {
		l := samples.Drawn(draw, 16, 1<<28, 1<<31)
		if len(l) == 0 {
			continue
		}
		all := gathered(l, last)
		times := []int64{0, 1, last - 1, last, draw(last), draw(last), draw(1 << 31)}
		for range 4 {
			x := all[draw(int64(len(all)))]
			times = append(times, x-1, x, min(x+1, last))
		}
		for _, x := range times {
			at, isOne := slices.BinarySearch(all, x)
			if got, want := Of(l, x), counted(l, x); got != want {
				t.Errorf("Of(%v, %d): %d, want %d", l, x, got, want)
			}
			before, next := int64(0), int64(0)
			if at > 0 {
				before = all[at-1]
			}
			if isOne {
				at++
			}
			if at < len(all) {
				next = all[at]
			}
			got, ok := Next(l, x)
			isTold(t, "Next", l, x, next, got, ok)
			got, ok = Before(l, x)
			isTold(t, "Before", l, x, before, got, ok)
			arePoints(t, l, x, all[:min(at, 4096)]...)
			isFirst(t, l, x, firstOf(l, all[:min(at, 4096)]))
		}
	}
}

// firstOf is the first of these deadlines at which more is counted than it; 0 if there is none.
func firstOf(l []api.Task, deadlines []int64) int64 {
	work := int64(0)
	for _, x := range deadlines {
		for _, task := range l {
			if x >= task.D && (x-task.D)%task.T == 0 {
				work += task.C
			}
		}
		if work > x {
			return x
		}
	}
	return 0
}

func TestWorkNeverFallsAndRisesAtDeadlinesAlone(t *testing.T) { // P10.3
	draw := samples.Drawing(4)
	for i := range 600 {
		l := samples.Drawn(draw, 16, 1, []int64{3, 20, 200}[i%3])
		const end = 400
		points := Points(l, end)
		ahead := int64(0)
		if work := Of(l, 0); work != 0 {
			t.Errorf("Of(%v, 0): %d", l, work)
		}
		for x := int64(1); x <= end; x++ {
			work := Of(l, x)
			if work < ahead {
				t.Errorf("Of(%v): %d at %d, and less at the time behind it", l, ahead, x-1)
			}
			if rises, is := work > ahead, slices.Contains(points, x); rises != is {
				t.Errorf("Of(%v) rises at %d: %v, its points have it: %v", l, x, rises, is)
			}
			next, ok := Next(l, x-1)
			if rises, is := work > ahead, ok && next == x; rises != is {
				t.Errorf("Of(%v) rises at %d: %v, it is the next of the time ahead: %v", l, x, rises, is)
			}
			ahead = work
		}
	}
}

func TestWorkBetweenTimesFarApart(t *testing.T) { // P10.3
	draw := samples.Drawing(5)
	for range 2000 {
		l := samples.Drawn(draw, 16, 1, 1<<31)
		x := draw(last)
		work := Of(l, x)
		next, ok := Next(l, x)
		if !ok {
			next = last + 1
		}
		if got := Of(l, next-1); got != work {
			t.Errorf("Of(%v): %d at %d, %d at %d, and no deadline between", l, work, x, got, next-1)
		}
		if got := Of(l, next); ok && got <= work {
			t.Errorf("Of(%v): %d at %d, %d at the deadline %d", l, work, x, got, next)
		}
		before, ok := Before(l, x+1)
		if got := Of(l, before); got != work {
			t.Errorf("Of(%v): %d at %d, %d at the deadline %d", l, work, x, got, before)
		}
		if ok && Of(l, before-1) >= work {
			t.Errorf("Of(%v): no less than %d ahead of the deadline %d", l, work, before)
		}
	}
}

func TestTheOrderOfTasksCountsForNothing(t *testing.T) { // P10.1, P10.2
	draw := samples.Drawing(6)
	for range 200 {
		l := samples.Drawn(draw, 16, 1, 60)
		turned := slices.Clone(l)
		slices.Reverse(turned)
		for _, x := range []int64{0, 1, 7, 30, 500, last} {
			next, isNext := Next(l, x)
			if got, ok := Next(turned, x); got != next || ok != isNext {
				t.Errorf("Next(%v, %d): %d, turned round %d", l, x, next, got)
			}
			before, isBefore := Before(l, x)
			if got, ok := Before(turned, x); got != before || ok != isBefore {
				t.Errorf("Before(%v, %d): %d, turned round %d", l, x, before, got)
			}
			first, _ := First(l, x)
			isFirst(t, turned, x, first)
			arePoints(t, turned, x, Points(l, x)...)
			if a, b := Of(l, x), Of(turned, x); a != b {
				t.Errorf("Of(%v, %d): %d, turned round %d", l, x, a, b)
			}
		}
	}
}

func TestWhatIsHandedInStaysAsItIs(t *testing.T) { // R3
	draw := samples.Drawing(7)
	rows := samples.Refused()
	for range 300 {
		rows = append(rows, samples.Drawn(draw, 16, 1, 60))
	}
	for _, l := range rows {
		// What lies behind the row stays as well.
		l = append(slices.Clone(l), named(1, 1, 1, 2, 2, 2)...)
		before := slices.Clone(l)
		row := l[:len(l)-2]
		for _, x := range []int64{-1, 0, 30, 4096, last, last + 1} {
			Of(row, x)
			Next(row, x)
			Before(row, x)
			First(row, x)
			Points(row, x)
		}
		if !slices.Equal(l, before) {
			t.Errorf("%v became %v", before, l)
		}
	}
}

func TestWhatPointsTellsIsTheCallersOwn(t *testing.T) { // P10.2, R3, R4
	draw := samples.Drawing(8)
	points := func(l []api.Task) []int64 { return Points(l, 500) }
	for range 300 {
		if l := samples.Drawn(draw, 16, 1, 60); !samples.IsOwn(points, l) {
			t.Errorf("Points(%v): not the same twice, or not the caller's own", l)
		}
	}
}

func TestAllCallsEndAtAllArguments(t *testing.T) { // P1, R4, R5
	numbers := []int64{math.MinInt64, -1, 0, 1, 2, 1<<31 - 1, 1 << 31, 1<<31 + 1, math.MaxInt64}
	times := []int64{math.MinInt64, -1, 0, 1, 1 << 31, last - 1, last, last + 1, math.MaxInt64}
	for _, c := range numbers {
		for _, d := range numbers {
			for _, p := range numbers {
				task := api.Task{ID: 1, C: c, D: d, T: p, Modes: 1}
				may := 1 <= c && c <= d && d <= p && p <= 1<<31
				l := []api.Task{{ID: 1, C: 1, D: 1, T: 1 << 31, Modes: 1}, task}
				for _, x := range times {
					if !may || x < 0 || x > last {
						isNone(t, l, x)
						if got := One(task, x); got != 0 {
							t.Errorf("One(%v, %d): %d, want 0", task, x, got)
						}
						continue
					}
					if got, want := Of(l, x), One(l[0], x)+One(task, x); got != want || got < 0 {
						t.Errorf("Of(%v, %d): %d, want %d", l, x, got, want)
					}
					if got := Points(l, x); len(got) > 4096 || !slices.IsSorted(got) {
						t.Errorf("Points(%v, %d): %d of them, or not rising", l, x, len(got))
					}
					first, ok := First(l, x)
					if again, is := First(l, x); first != again || ok != is {
						t.Errorf("First(%v, %d): %d, then %d", l, x, first, again)
					}
				}
			}
		}
	}
	isNone(t, samples.Same(1<<16, api.Task{ID: 1, C: 1, D: 1, T: 1, Modes: 1}), 100)
}
