package busy

import (
	"math"
	"slices"
	"testing"

	"horarium/api"
	"horarium/samples"
)

// last is the greatest time that there is.
const last = samples.Last

// named are tasks of these C and T, two by two, each with its T as D, with IDs from 0 on.
func named(numbers ...int64) []api.Task {
	var l []api.Task
	for i := 0; i < len(numbers); i += 2 {
		l = append(l, api.Task{ID: i / 2, C: numbers[i], D: numbers[i+1], T: numbers[i+1], Modes: 1})
	}
	return l
}

// due are tasks of these D, each of which has 1 of 100.
func due(numbers ...int64) []api.Task {
	var l []api.Task
	for i, d := range numbers {
		l = append(l, api.Task{ID: i, C: 1, D: d, T: 100, Modes: 1})
	}
	return l
}

// counted is the work of l that was released below x, release by release.
func counted(l []api.Task, x int64) int64 {
	work := int64(0)
	for _, t := range l {
		for r := int64(0); r < x; r += t.T {
			work += t.C
		}
	}
	return work
}

// hasNoLength looks at what Length and Steps tell where there is an error.
func hasNoLength(t *testing.T, l []api.Task, want api.Errno) {
	t.Helper()
	if got, err := Length(l); got != 0 || err != want {
		t.Errorf("Length(%v): %d %v, want 0 %v", l, got, err, want)
	}
	if got := Steps(l); len(got) != 0 {
		t.Errorf("Steps(%v): %d of them, want none", l, len(got))
	}
}

// isLength looks at what Length tells, and that Steps go just up to it.
func isLength(t *testing.T, l []api.Task, want int64) {
	t.Helper()
	if got, err := Length(l); got != want || err != api.OK {
		t.Errorf("Length(%v): %d %v, want %d", l, got, err, want)
	}
	if got := Steps(l); len(got) == 0 || got[len(got)-1] != want {
		t.Errorf("Steps(%v): %v, want them up to %d", l, got, want)
	}
}

// areSteps looks at what Steps tells, and that the last of them is the length.
func areSteps(t *testing.T, l []api.Task, want ...int64) {
	t.Helper()
	isLength(t, l, want[len(want)-1])
	if got := Steps(l); !slices.Equal(got, want) {
		t.Errorf("Steps(%v): %v, want %v", l, got, want)
	}
}

// isNone looks at what is told of tasks that may not be, or at what is no time.
func isNone(t *testing.T, l []api.Task, x int64) {
	t.Helper()
	if got := Work(l, x); got != 0 {
		t.Errorf("Work(%v, %d): %d, want 0", l, x, got)
	}
	if Idle(l, x) {
		t.Errorf("Idle(%v, %d): true", l, x)
	}
}

func TestTheChaptersExample(t *testing.T) { // P11.2
	areSteps(t, named(2, 5, 2, 6), 4)
}

func TestWorkOfOneAtItsEdges(t *testing.T) { // P11.1
	const most = 1 << 31
	cases := []struct{ c, d, t, x, want int64 }{
		{2, 3, 5, 0, 0}, {2, 3, 5, 1, 2}, {2, 3, 5, 2, 2}, {2, 3, 5, 3, 2}, {2, 3, 5, 4, 2}, {2, 3, 5, 5, 2}, {2, 3, 5, 6, 4},
		{2, 3, 5, 9, 4}, {2, 3, 5, 10, 4}, {2, 3, 5, 11, 6}, {2, 3, 5, last, 439804651112}, {2, 3, 5, last - 1, 439804651110},
		{4, 4, 4, 0, 0}, {4, 4, 4, 1, 4}, {4, 4, 4, 3, 4}, {4, 4, 4, 4, 4}, {4, 4, 4, 5, 8}, {4, 4, 4, 7, 8}, {4, 4, 4, 8, 8}, {4, 4, 4, 9, 12},
		{4, 4, 4, last - 1, last}, {4, 4, 4, last, last}, {4, 4, 4, last - 3, last}, {4, 4, 4, last - 4, last - 4},

		{1, 1, 1, 0, 0}, {1, 1, 1, 1, 1}, {1, 1, 1, 2, 2}, {1, 1, 1, 3, 3}, {1, 1, 1, last - 1, last - 1}, {1, 1, 1, last, last},
		{1, 1, 2, 1, 1}, {1, 1, 2, 2, 1}, {1, 1, 2, 3, 2}, {1, 1, 2, 4, 2}, {1, 1, 2, last, last / 2},
		{most, most, most, 0, 0}, {most, most, most, 1, most}, {most, most, most, most - 1, most}, {most, most, most, most, most},
		{most, most, most, most + 1, 2 * most}, {most, most, most, 2*most - 1, 2 * most}, {most, most, most, 2 * most, 2 * most}, {most, most, most, 2*most + 1, 3 * most},
		{most, most, most, last - most, last - most}, {most, most, most, last - most + 1, last}, {most, most, most, last - 1, last}, {most, most, most, last, last},
		{1, most, most, 0, 0}, {1, most, most, 1, 1}, {1, most, most, most, 1}, {1, most, most, most + 1, 2}, {1, most, most, last, 512},
		{1, 1, most, 0, 0}, {1, 1, most, 1, 1}, {1, 1, most, most, 1}, {1, 1, most, most + 1, 2}, {1, 1, most, last, 512},
		{most - 1, most - 1, most, 1, most - 1}, {most - 1, most - 1, most, last, 512 * (most - 1)},
		{most - 1, most - 1, most - 1, last, last + most - 513},
	}
	for _, c := range cases {
		l := []api.Task{{ID: 3, C: c.c, D: c.d, T: c.t, Modes: 2}}
		if got := Work(l, c.x); got != c.want {
			t.Errorf("Work(%v, %d): %d, want %d", l, c.x, got, c.want)
		}
		if got, want := Idle(l, c.x), c.want <= c.x; got != want {
			t.Errorf("Idle(%v, %d): %v, want %v", l, c.x, got, want)
		}
	}
}

func TestWorkOfManyAtItsEdges(t *testing.T) { // P11.1, R1
	const most = 1 << 31
	always := api.Task{ID: 7, C: 1, D: 1, T: 1, Modes: 1}
	great := api.Task{ID: 1, C: most, D: most, T: most, Modes: 15}
	// There is no task that has more work at the last time than this one.
	greatest := api.Task{ID: 1, C: most - 1, D: most - 1, T: most - 1, Modes: 15}
	cases := []struct {
		l       []api.Task
		x, want int64
	}{
		{nil, 0, 0}, {nil, 1, 0}, {nil, 5, 0}, {nil, last, 0}, {[]api.Task{}, 5, 0},
		{named(2, 5, 2, 6), 0, 0}, {named(2, 5, 2, 6), 1, 4}, {named(2, 5, 2, 6), 5, 4}, {named(2, 5, 2, 6), 6, 6}, {named(2, 5, 2, 6), 7, 8},
		{named(2, 5, 2, 6), 30, 22}, {named(2, 5, 2, 6), 31, 26},
		{samples.Same(2, always), 9, 18}, {samples.Same(15, always), 3, 45}, {samples.Same(16, always), 3, 48}, {samples.Same(17, always), 3, 0},
		{append(samples.Same(15, always), named(2, 5)...), 3, 47}, {append(named(2, 5), samples.Same(15, always)...), 3, 47},
		{samples.Same(16, always), last, 1 << 44}, {samples.Same(16, always), last - 1, 1<<44 - 16},
		{samples.Same(16, great), last, 1 << 44}, {samples.Same(16, great), last - most + 1, 1 << 44}, {samples.Same(16, great), last - most, 1<<44 - 1<<35},
		{samples.Same(16, greatest), last, 1<<44 + 1<<35 - 16*513}, {samples.Same(16, greatest), 1, 16 * (most - 1)}, {samples.Same(17, greatest), last, 0},
	}
	for _, c := range cases {
		if got := Work(c.l, c.x); got != c.want {
			t.Errorf("Work(%v, %d): %d, want %d", c.l, c.x, got, c.want)
		}
	}
}

func TestRowsThatMayNotBeHaveNothing(t *testing.T) { // P11.1, P11.2, P1, R2
	for _, l := range samples.Refused() {
		for _, x := range slices.Concat(samples.Times(), samples.NoTimes()) {
			isNone(t, l, x)
		}
		if got := Least(l); got != 0 {
			t.Errorf("Least(%v): %d, want 0", l, got)
		}
		hasNoLength(t, l, api.ErrArg)
	}
}

func TestNothingIsToldAtWhatIsNoTime(t *testing.T) { // P11.1, P1
	always := api.Task{ID: 0, C: 1, D: 1, T: 1, Modes: 1}
	seldom := api.Task{ID: 2, C: 1, D: 1 << 31, T: 1 << 31, Modes: 1}
	great := api.Task{ID: 1, C: 1 << 31, D: 1 << 31, T: 1 << 31, Modes: 1}
	for _, l := range [][]api.Task{nil, {}, {always}, {seldom}, {great}, {always, great}, samples.Same(16, seldom), samples.Same(16, great)} {
		for _, x := range samples.NoTimes() {
			isNone(t, l, x)
		}
	}
}

func TestIdleAtItsEdges(t *testing.T) { // P11.1, R1
	const most = 1 << 31
	full := named(1, 2, 1, 3, 1, 6)
	cases := []struct {
		l    []api.Task
		x    int64
		want bool
	}{
		{nil, 0, true}, {nil, 1, true}, {nil, last, true}, {[]api.Task{}, 0, true}, {[]api.Task{}, last, true},
		{named(2, 5, 2, 6), 0, true}, {named(2, 5, 2, 6), 1, false}, {named(2, 5, 2, 6), 2, false}, {named(2, 5, 2, 6), 3, false},
		{named(2, 5, 2, 6), 4, true}, {named(2, 5, 2, 6), 5, true}, {named(2, 5, 2, 6), 6, true}, {named(2, 5, 2, 6), 7, false}, {named(2, 5, 2, 6), 8, true},
		{full, 0, true}, {full, 1, false}, {full, 5, false}, {full, 6, true}, {full, 7, false}, {full, 11, false}, {full, 12, true}, {full, 13, false},
		{samples.Same(2, named(1, 1)[0]), 0, true}, {samples.Same(2, named(1, 1)[0]), 1, false}, {samples.Same(2, named(1, 1)[0]), 2, false}, {samples.Same(2, named(1, 1)[0]), last, false},
		{named(1, 1), 0, true}, {named(1, 1), 1, true}, {named(1, 1), 2, true}, {named(1, 1), last - 1, true}, {named(1, 1), last, true},
		{named(most, most), 1, false}, {named(most, most), most - 1, false}, {named(most, most), most, true}, {named(most, most), most + 1, false},
		{named(most, most), last - 1, false}, {named(most, most), last, true}, {named(most, most, 1, most), last, false},
		{named(most-1, most, 1, most), last, true}, {named(most-2, most, 1, most), last - 1, true}, {named(most-1, most-1), last, false},
	}
	for _, c := range cases {
		if got := Idle(c.l, c.x); got != c.want {
			t.Errorf("Idle(%v, %d): %v, want %v", c.l, c.x, got, c.want)
		}
	}
}

func TestLeast(t *testing.T) { // P11.1, R1
	const most = 1 << 31
	cases := []struct {
		l    []api.Task
		want int64
	}{
		{nil, 0}, {[]api.Task{}, 0},
		{due(1), 1}, {due(7), 7}, {due(100), 100}, {named(1, 1), 1}, {named(most, most), most}, {named(1, most, 1, most), most},
		{due(3, 4, 5), 3}, {due(4, 3, 5), 3}, {due(5, 4, 3), 3}, {due(5, 3, 3), 3}, {due(3, 3, 3), 3}, {due(2, 1), 1}, {due(1, 2), 1},
		{append(due(9, 8), named(7, 7)...), 7}, {append(named(most, most), due(99)...), 99},
		{samples.Same(15, due(6)[0]), 6}, {samples.Same(16, due(6)[0]), 6}, {samples.Same(17, due(6)[0]), 0},
		{append(samples.Same(15, due(6)[0]), due(5)...), 5}, {append(due(5), samples.Same(15, due(6)[0])...), 5}, {append(samples.Same(16, due(6)[0]), due(5)...), 0},
		{[]api.Task{{ID: 1, C: 1, D: 1, T: most, Modes: 1}, {ID: 1, C: 2, D: 2, T: 2, Modes: 1}}, 1},
		{[]api.Task{{ID: 1, C: 1, D: most - 1, T: most, Modes: 1}, {ID: 1, C: 1, D: most, T: most, Modes: 1}}, most - 1},
	}
	for _, c := range cases {
		if got := Least(c.l); got != c.want {
			t.Errorf("Least(%v): %d, want %d", c.l, got, c.want)
		}
	}
	for n := range 16 {
		l := due(50, 51, 52, 53, 54, 55, 56, 57, 58, 59, 60, 61, 62, 63, 64, 65)
		l[n].D = 49
		if got := Least(l); got != 49 {
			t.Errorf("Least(%v): %d, want the one at place %d", l, got, n)
		}
	}
}

func TestThereIsNoLengthOfNoTasks(t *testing.T) { // P11.2, R1
	hasNoLength(t, nil, api.OK)
	hasNoLength(t, []api.Task{}, api.OK)
	hasNoLength(t, make([]api.Task, 0, 20), api.OK)
}

func TestLengthOfOneTaskIsItsWork(t *testing.T) { // P11.2
	for _, period := range []int64{1, 2, 3, 100, 1<<20 - 1, 1 << 20} {
		for _, c := range []int64{1, 2, period / 2, period - 1, period} {
			if 1 <= c && c <= period {
				areSteps(t, named(c, period), c)
			}
		}
	}
	for _, period := range []int64{1<<20 + 1, 1<<20 + 2, 1<<31 - 1, 1 << 31} {
		hasNoLength(t, named(1, period), api.ErrOver)
		hasNoLength(t, named(period, period), api.ErrOver)
	}
}

func TestLengthOfManyOfTheSame(t *testing.T) { // P11.2
	areSteps(t, samples.Same(16, named(1, 16)[0]), 16)
	areSteps(t, samples.Same(15, named(1, 16)[0]), 15)
	areSteps(t, samples.Same(16, named(2, 40)[0]), 32)
	areSteps(t, samples.Same(4, named(3, 12)[0]), 12)
	areSteps(t, samples.Same(2, named(1, 2)[0]), 2)
	areSteps(t, samples.Same(16, named(1<<16, 1<<20)[0]), 1<<20)
	hasNoLength(t, samples.Same(16, named(1, 15)[0]), api.ErrLoad)
	hasNoLength(t, samples.Same(2, named(1, 1)[0]), api.ErrLoad)
	hasNoLength(t, samples.Same(16, named(1, 1)[0]), api.ErrLoad)
	hasNoLength(t, samples.Same(16, named(1<<20, 1<<20)[0]), api.ErrLoad)
	hasNoLength(t, samples.Same(17, named(1, 100)[0]), api.ErrArg)
}

func TestLengthAtItsEdges(t *testing.T) { // P11.2
	areSteps(t, named(1, 1), 1)
	areSteps(t, named(1, 2), 1)
	areSteps(t, named(2, 4, 2, 6, 1, 12), 5, 7, 9, 11)
	areSteps(t, named(2, 5, 3, 6), 5)
	areSteps(t, named(2, 5, 4, 7), 6, 8, 12, 14)
	areSteps(t, named(1, 2, 1, 3), 2)

	// A load just below 1, of 1 and just above it.
	areSteps(t, named(1, 2, 1, 3, 9, 60), 11, 19, 26, 31, 36, 39, 42, 44, 46, 48, 49, 51, 52, 53, 54)
	isLength(t, named(1, 2, 1, 3, 10, 60), 60)
	hasNoLength(t, named(1, 2, 1, 3, 11, 60), api.ErrLoad)
	areSteps(t, named(1, 2, 1, 3, 1, 6), 3, 4, 5, 6)
	hasNoLength(t, named(3, 4, 2, 6), api.ErrLoad)
	isLength(t, named(1, 2, 1<<19-1, 1<<20), 1<<20-2)
	isLength(t, named(1, 2, 1<<19, 1<<20), 1<<20)
	hasNoLength(t, named(1, 2, 1<<19+1, 1<<20), api.ErrLoad)
	areSteps(t, named(1<<20-1, 1<<20, 1, 1<<20), 1<<20)
	hasNoLength(t, named(1<<20, 1<<20, 1, 1<<20), api.ErrLoad)
}

func TestLengthOfLongOnes(t *testing.T) { // P11.2
	isLength(t, samples.Halves(31, 1<<20), 1015808)
	isLength(t, samples.Halves(32, 1<<20), 1<<20)
	hasNoLength(t, samples.Halves(33, 1<<20), api.ErrLoad)
	for _, l := range [][]api.Task{
		samples.Halves(1, 1<<20), samples.Halves(31, 1<<20), samples.Halves(32, 1<<20), named(511, 1023, 513, 1025), named(1, 2, 1, 3, 1, 7, 1, 43, 1, 1806),
		named(1, 2, 1, 3, 1, 7, 41, 1806), named(1023, 1024, 1023, 1<<20), named(1, 2, 1<<19, 1<<20), named(1<<20-1, 1<<20, 1, 1<<20),
	} {
		isCounted(t, l)
	}
}

func TestThePeriodIsNotTooGreat(t *testing.T) { // P11.2
	isLength(t, named(1, 1<<20, 1, 1<<10), 2)
	isLength(t, named(1<<20-1<<10, 1<<20, 1, 1<<10), 1<<20)
	isLength(t, named(511, 1023, 513, 1025), 523775)
	isLength(t, named(1, 1023, 1, 1024), 2)
	hasNoLength(t, named(1, 1<<20, 1, 3), api.ErrOver)
	hasNoLength(t, named(1, 1<<19, 1, 3), api.ErrOver)
	hasNoLength(t, named(1, 1024, 1, 1025), api.ErrOver)
	hasNoLength(t, named(1, 1<<20-1, 1, 1<<20), api.ErrOver)
	hasNoLength(t, named(1, 1<<31, 1, 1<<31-1), api.ErrOver)
}

func TestTheErrorThatIsNamedFirst(t *testing.T) { // P11.2, R2
	tooMuch := named(1, 1, 1, 1)
	hasNoLength(t, tooMuch, api.ErrLoad)
	tooGreat := append(tooMuch, named(1<<31, 1<<31)...)
	hasNoLength(t, tooGreat, api.ErrOver)
	for _, bad := range samples.Wrong() {
		hasNoLength(t, append(slices.Clone(tooGreat), bad), api.ErrArg)
		hasNoLength(t, append([]api.Task{bad}, tooGreat...), api.ErrArg)
	}
	hasNoLength(t, append(samples.Same(14, tooMuch[0]), tooGreat...), api.ErrArg)
}

// isCounted holds Length and Steps of tasks that may be, and Work and Idle up to the length, against a plain count; it tells the error that there is.
func isCounted(t *testing.T, l []api.Task) api.Errno {
	t.Helper()
	period, load := samples.Common(l), int64(0)
	if period == 0 {
		hasNoLength(t, l, api.ErrOver)
		return api.ErrOver
	}
	for _, task := range l {
		load += task.C * (period / task.T)
	}
	if load > period {
		hasNoLength(t, l, api.ErrLoad)
		return api.ErrLoad
	}
	if len(l) == 0 {
		hasNoLength(t, l, api.OK)
		return api.OK
	}
	length, work := samples.Lasting(l)
	steps := []int64{work[1]}
	for x := work[1]; work[x] != x; x = work[x] {
		steps = append(steps, work[x])
	}
	areSteps(t, l, steps...)
	if steps[len(steps)-1] != length {
		t.Errorf("the steps of %v end at %d, not at the length, %d", l, steps[len(steps)-1], length)
	}
	if length > period {
		t.Errorf("the length of %v is %d, above the period, %d", l, length, period)
	}
	// Of long ones it looks at some times alone, and at the last ones.
	for x := int64(0); x <= length; x += 1 + length/5000 {
		isCountedAt(t, l, x, work[x])
		isCountedAt(t, l, length-x, work[length-x])
	}
	return api.OK
}

// isCountedAt holds Work and Idle against what is counted.
func isCountedAt(t *testing.T, l []api.Task, x, want int64) {
	t.Helper()
	if got := Work(l, x); got != want {
		t.Errorf("Work(%v, %d): %d, want %d", l, x, got, want)
	}
	if got := Idle(l, x); got != (want <= x) {
		t.Errorf("Idle(%v, %d): %v, of %d", l, x, got, want)
	}
}

func TestAllCallsAreAsAPlainCountTells(t *testing.T) { // P11.1, P11.2, P11.3
	draw := samples.Drawing(1)
	found := map[api.Errno]int{}
	for i := range 3000 {
		whole := []int64{6, 12, 60, 360, 2520, 1 << 12}[i%6]
		l := samples.Dividing(draw, whole)
		found[isCounted(t, l)]++
		found[isCounted(t, samples.Drawn(draw, 4, 1, []int64{8, 200, 2000}[i%3]))]++
	}
	for _, err := range []api.Errno{api.OK, api.ErrLoad, api.ErrOver} {
		if found[err] < 300 {
			t.Errorf("just %d rows have error %v: too few", found[err], err)
		}
	}
}

func TestLoadsAround1(t *testing.T) { // P11.2, P11.3
	draw := samples.Drawing(2)
	found := 0
	for i := range 1500 {
		whole := []int64{6, 12, 60, 360, 2520, 720720, 1 << 20}[i%7]
		if whole > 2520 && i > 50 {
			continue
		}
		l := samples.Dividing(draw, whole)
		if full, ok := samples.Filled(l, whole, 0); ok {
			found++
			// Time is left over at no time ahead of the period's end.
			isLength(t, full, whole)
			isCounted(t, full)
		}
		if nearly, ok := samples.Filled(l, whole, 1); ok && isCounted(t, nearly) != api.OK {
			t.Errorf("%v is too much", nearly)
		}
		if over, ok := samples.Filled(l, whole, -1); ok {
			hasNoLength(t, over, api.ErrLoad)
		}
	}
	if found < 300 {
		t.Errorf("just %d rows could be filled: too few", found)
	}
}

func TestWorkAtAnyTimeIsAsAPlainCountTells(t *testing.T) { // P11.1
	draw := samples.Drawing(3)
	for range 600 {
		l := samples.Drawn(draw, 16, 1, 24)
		for x := range int64(60) {
			isCountedAt(t, l, x, counted(l, x))
		}
	}
	for range 60 {
		l := samples.Drawn(draw, 16, 1<<28, 1<<31)
		times := []int64{0, 1, last - 1, last, draw(last), draw(last), draw(1 << 31)}
		for _, task := range l {
			x := task.T * (1 + draw(last/task.T))
			times = append(times, x-1, x, min(x+1, last))
		}
		for _, x := range times {
			isCountedAt(t, l, x, counted(l, x))
		}
	}
}

func TestLeastIsTheLeastDOfAll(t *testing.T) { // P11.1
	draw := samples.Drawing(4)
	for i := range 2000 {
		l := samples.Drawn(draw, 16, 1, []int64{5, 1000, 1 << 31}[i%3])
		want := int64(0)
		for at, task := range l {
			if at == 0 || task.D < want {
				want = task.D
			}
		}
		if got := Least(l); got != want {
			t.Errorf("Least(%v): %d, want %d", l, got, want)
		}
	}
}

func TestAheadOfTheLengthThereIsMoreWorkThanTime(t *testing.T) { // P11.3
	draw := samples.Drawing(5)
	found, long := 0, 0
	for i := range 2000 {
		l := samples.Dividing(draw, []int64{12, 60, 360, 2520}[i%4])
		length, err := Length(l)
		if err != api.OK {
			continue
		}
		found++
		if length > 100 {
			long++
		}
		for x := int64(1); x < length; x++ {
			if Work(l, x) <= x || Idle(l, x) {
				t.Errorf("%v: at %d, ahead of the length, %d, there is no more work than time", l, x, length)
			}
		}
		if Work(l, length) != length || !Idle(l, length) {
			t.Errorf("%v: work of %d at the length, %d", l, Work(l, length), length)
		}
		if period := samples.Common(l); length > period {
			t.Errorf("%v: a length of %d, above the period, %d", l, length, period)
		}
	}
	if found < 300 || long < 100 {
		t.Errorf("%d rows have a length, %d of them a long one: too few", found, long)
	}
}

func TestStepsRiseAndEachIsTheWorkOfTheOneAhead(t *testing.T) { // P11.2
	draw := samples.Drawing(6)
	for i := range 1000 {
		l := samples.Dividing(draw, []int64{12, 60, 2520, 720720}[i%4])
		length, err := Length(l)
		if err != api.OK {
			continue
		}
		first := int64(0)
		for _, task := range l {
			first += task.C
		}
		steps := Steps(l)
		if len(steps) == 0 || steps[0] != first || steps[len(steps)-1] != length {
			t.Errorf("Steps(%v): %v, want them from %d to %d", l, steps, first, length)
		}
		for n := 1; n < len(steps); n++ {
			if steps[n] <= steps[n-1] || steps[n] != Work(l, steps[n-1]) {
				t.Errorf("Steps(%v): %d, then %d", l, steps[n-1], steps[n])
			}
		}
	}
}

func TestDAndIDAndModesAndTheOrderCountForNothing(t *testing.T) { // P11.1, P11.2
	draw := samples.Drawing(7)
	for i := range 500 {
		l := samples.Dividing(draw, []int64{12, 60, 2520, 720720}[i%4])
		other := slices.Clone(l)
		slices.Reverse(other)
		for i, task := range other {
			other[i] = api.Task{ID: int(draw(1024)), C: task.C, D: task.C + draw(task.T-task.C+1), T: task.T, Modes: 1 + int(draw(15))}
		}
		for _, x := range []int64{0, 1, 7, 30, 500, last} {
			if a, b := Work(l, x), Work(other, x); a != b {
				t.Errorf("Work(%v, %d): %d, of %v %d", l, x, a, other, b)
			}
		}
		length, err := Length(l)
		if got, is := Length(other); got != length || is != err {
			t.Errorf("Length(%v): %d %v, of %v %d %v", l, length, err, other, got, is)
		}
		if a, b := Steps(l), Steps(other); !slices.Equal(a, b) {
			t.Errorf("Steps(%v): %v, of %v %v", l, a, other, b)
		}
	}
}

func TestWhatIsHandedInStaysAsItIs(t *testing.T) { // R3
	draw := samples.Drawing(8)
	rows := samples.Refused()
	for range 300 {
		rows = append(rows, samples.Drawn(draw, 16, 1, 60), samples.Dividing(draw, 360))
	}
	for _, l := range rows {
		// What lies behind the row stays as well.
		l = append(slices.Clone(l), named(1, 1, 2, 2)...)
		before := slices.Clone(l)
		row := l[:len(l)-2]
		for _, x := range []int64{-1, 0, 30, last, last + 1} {
			Work(row, x)
			Idle(row, x)
		}
		Least(row)
		Length(row)
		Steps(row)
		if !slices.Equal(l, before) {
			t.Errorf("%v became %v", before, l)
		}
	}
}

func TestWhatStepsTellsIsTheCallersOwn(t *testing.T) { // P11.2, R3, R4
	draw := samples.Drawing(9)
	for range 500 {
		if l := samples.Dividing(draw, 2520); !samples.IsOwn(Steps, l) {
			t.Errorf("Steps(%v): not the same twice, or not the caller's own", l)
		}
	}
}

func TestAllCallsEndAtAllArguments(t *testing.T) { // P1, R4, R5
	numbers := []int64{math.MinInt64, -1, 0, 1, 2, 1<<20 - 1, 1 << 20, 1<<20 + 1, 1<<31 - 1, 1 << 31, 1<<31 + 1, math.MaxInt64}
	times := slices.Concat(samples.Times(), samples.NoTimes())
	for _, c := range numbers {
		for _, d := range numbers {
			for _, p := range numbers {
				task := api.Task{ID: 1, C: c, D: d, T: p, Modes: 1}
				may := 1 <= c && c <= d && d <= p && p <= 1<<31
				l := []api.Task{{ID: 1, C: 1, D: 1, T: 1 << 20, Modes: 1}, task}
				if may {
					isCounted(t, l)
				} else {
					hasNoLength(t, l, api.ErrArg)
				}
				for _, x := range times {
					if !may || x < 0 || x > last {
						isNone(t, l, x)
						continue
					}
					if got, want := Work(l, x), Work(l[:1], x)+Work(l[1:], x); got != want || got < 0 {
						t.Errorf("Work(%v, %d): %d, want %d", l, x, got, want)
					}
				}
			}
		}
	}
	for _, n := range []int{1 << 10, 1 << 16} {
		l := samples.Same(n, api.Task{ID: 1, C: 1, D: 1, T: 1, Modes: 1})
		isNone(t, l, 100)
		hasNoLength(t, l, api.ErrArg)
	}
}
