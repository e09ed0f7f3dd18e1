package qpa

import (
	"math"
	"slices"
	"testing"

	"horarium/api"
	"horarium/busy"
	"horarium/demand"
	"horarium/param"
	"horarium/samples"
)

// The tasks, and their counts, that tests of many layers look at.
var (
	named = samples.Named
	moded = samples.Moded
	dues  = samples.Dues
)

// some is a row of tasks that may be, of one of many kinds.
func some(draw func(n int64) int64) []api.Task {
	whole := []int64{6, 12, 60, 360, 2520}[draw(5)]
	switch draw(9) {
	case 0, 1:
		return light(draw)
	case 2, 3, 4:
		return nearlyFull(draw, whole, draw(3))
	case 5, 6:
		return samples.Dividing(draw, whole)
	case 7:
		return samples.Drawn(draw, 4, 1, 12)
	}
	return samples.Drawn(draw, 5, 1, 400)
}

// light is a row of tasks of little work each, all of which are due early.
func light(draw func(n int64) int64) []api.Task {
	var l []api.Task
	n := 1 + draw(12)
	for i := range n {
		d := 1 + i + draw(6)
		l = append(l, api.Task{ID: int(draw(1024)), C: 1 + draw(max(1, d/n)), D: d, T: []int64{20, 24, 30, 40, 60}[draw(5)], Modes: 1 + int(draw(15))})
	}
	return l
}

// nearlyFull is a row of tasks that leave just left of the period whole; the last of them is due late, and most others at their T, so that it may be the last time ahead of the length at which there is too much work.
func nearlyFull(draw func(n int64) int64, whole, left int64) []api.Task {
	for {
		l := samples.Dividing(draw, whole)
		for i := range l {
			if draw(4) > 0 {
				l[i].D = l[i].T
			}
		}
		if full, ok := samples.Filled(l, whole, left); ok {
			last := &full[len(l)]
			last.D = max(last.C, whole-draw(1+whole/4))
			return full
		}
	}
}

// plain is what a plain count tells of tasks that may be: Test and Miss of them, and of those that have a path how much is due by each time up to the period, the least D, and how long there is no pause.
type plain struct {
	test          api.Errno
	miss          int64
	missed        api.Errno
	due           []int64
	least, length int64
}

// count counts time by time.
func count(l []api.Task) plain {
	period, load := samples.Common(l), int64(0)
	if period == 0 {
		return plain{test: api.ErrOver, missed: api.ErrOver}
	}
	for _, task := range l {
		load += task.C * (period / task.T)
	}
	if load > period {
		return plain{test: api.ErrLoad}
	}
	p := plain{due: dues(l, period)}
	for x, work := range p.due {
		if p.miss == 0 && work > int64(x) {
			p.test, p.miss = api.ErrLoad, int64(x)
		}
	}
	if len(l) > 0 {
		p.length, _ = samples.Lasting(l)
	}
	for i, task := range l {
		if i == 0 || task.D < p.least {
			p.least = task.D
		}
	}
	return p
}

// ahead is the greatest deadline below x; 0 if there is none.
func (p plain) ahead(x int64) int64 {
	for x--; x > 0 && p.due[x] == p.due[x-1]; x-- {
	}
	return max(0, x)
}

// path is as the chapter's words tell it, of what was counted.
func (p plain) path() []int64 {
	var path []int64
	for x := p.ahead(p.length); x > 0; {
		path = append(path, x)
		work := p.due[x]
		switch {
		case work > x, work <= p.least:
			return path
		case work < x:
			x = work
		default:
			x = p.ahead(x)
		}
	}
	return path
}

// of are those of l that are in mode m.
func of(l []api.Task, m int) []api.Task {
	bits := []int{1, 2, 4, 8}
	return slices.DeleteFunc(slices.Clone(l), func(task api.Task) bool { return task.Modes&bits[m] == 0 })
}

// is looks at what Test, Miss and Path tell.
func is(t *testing.T, l []api.Task, test api.Errno, miss int64, missed api.Errno, path ...int64) {
	t.Helper()
	if got := Test(l); got != test {
		t.Errorf("Test(%v): %v, want %v", l, got, test)
	}
	if got, err := Miss(l); got != miss || err != missed {
		t.Errorf("Miss(%v): %d %v, want %d %v", l, got, err, miss, missed)
	}
	if got := Path(l); !slices.Equal(got, path) {
		t.Errorf("Path(%v): %d of them, %v, want %d of them, %v", l, len(got), got[:min(9, len(got))], len(path), path[:min(9, len(path))])
	}
}

// fits looks at tasks that fit.
func fits(t *testing.T, l []api.Task, path ...int64) {
	t.Helper()
	is(t, l, api.OK, 0, api.OK, path...)
}

// misses looks at tasks that don't fit, though they don't load too much.
func misses(t *testing.T, l []api.Task, miss int64, path ...int64) {
	t.Helper()
	is(t, l, api.ErrLoad, miss, api.OK, path...)
}

// loadsTooMuch looks at tasks that param.Over says yes of.
func loadsTooMuch(t *testing.T, l []api.Task) {
	t.Helper()
	is(t, l, api.ErrLoad, 0, api.OK)
}

// isWrong looks at tasks of which there is an error.
func isWrong(t *testing.T, l []api.Task, want api.Errno) {
	t.Helper()
	is(t, l, want, 0, want)
}

// isCounted holds Test, Miss, Path and Modes of tasks that may be against a plain count, and tells it.
func isCounted(t *testing.T, l []api.Task) plain {
	t.Helper()
	p := count(l)
	is(t, l, p.test, p.miss, p.missed, p.path()...)
	got := Modes(l)
	for m := range got {
		if want := count(of(l, m)).test; got[m] != want {
			t.Errorf("Modes(%v): %v of %d, want %v", l, got[m], m, want)
		}
	}
	return p
}

// isRoom looks at what Room tells, of a task of d and p, whatever its C is.
func isRoom(t *testing.T, l []api.Task, d, p, want int64) {
	t.Helper()
	for _, c := range []int64{1, 0, 2, d - 1, d, d + 1, p, p + 1, want, want + 1, -1, math.MinInt64, math.MaxInt64} {
		task := api.Task{ID: 9, C: c, D: d, T: p, Modes: 1}
		if got := Room(l, task); got != want {
			t.Errorf("Room(%v, %v): %d, want %d", l, task, got, want)
		}
	}
}

// areModes looks at what Modes tells.
func areModes(t *testing.T, l []api.Task, want ...api.Errno) {
	t.Helper()
	if got := Modes(l); !slices.Equal(got[:], want) {
		t.Errorf("Modes(%v): %v, want %v", l, got, want)
	}
}

func TestTheChaptersExamples(t *testing.T) { // P12.1
	fits(t, named(2, 3, 5, 2, 4, 6), 3)
	misses(t, named(3, 3, 5, 2, 4, 6), 4, 4)
}

func TestAnExampleOfTheWhole(t *testing.T) { // P12.1
	fits(t, named(1, 2, 2))
	loadsTooMuch(t, named(1, 2, 2, 2, 3, 3))
	isRoom(t, named(1, 2, 2), 3, 3, 1)
}

func TestNoTasksFit(t *testing.T) { // P12.1, P12.2, R1
	for _, l := range [][]api.Task{nil, {}, make([]api.Task, 0, 20)} {
		fits(t, l)
		areModes(t, l, api.OK, api.OK, api.OK, api.OK)
	}
}

func TestOneTaskFitsIfItsPeriodIsNotTooGreat(t *testing.T) { // P12.1, P12.2
	for _, period := range []int64{1, 2, 3, 100, 1<<20 - 1, 1 << 20} {
		for _, d := range []int64{1, 2, period / 2, period - 1, period} {
			for _, c := range []int64{1, 2, d / 2, d - 1, d} {
				if 1 <= c && c <= d && d <= period {
					fits(t, named(c, d, period))
				}
			}
		}
	}
	for _, period := range []int64{1<<20 + 1, 1<<20 + 2, 1<<31 - 1, 1 << 31} {
		isWrong(t, named(1, 1, period), api.ErrOver)
		isWrong(t, named(1, period, period), api.ErrOver)
		isWrong(t, named(period, period, period), api.ErrOver)
	}
}

func Test16TasksAnd17(t *testing.T) { // P12.1, P12.2
	fits(t, samples.Same(16, named(1, 16, 16)[0]))
	fits(t, samples.Same(16, named(1, 17, 18)[0]))
	fits(t, samples.Same(16, named(1<<16, 1<<20, 1<<20)[0]))
	misses(t, samples.Same(16, named(1, 15, 16)[0]), 15, 15)
	misses(t, samples.Same(16, named(1, 1, 16)[0]), 1, 1)
	loadsTooMuch(t, samples.Same(16, named(1, 15, 15)[0]))
	isWrong(t, samples.Same(16, named(1, 1<<21, 1<<21)[0]), api.ErrOver)
	for _, task := range named(1, 17, 17, 1, 1, 100, 1, 100, 100, 1, 1, 1, 1, 1<<31, 1<<31) {
		isWrong(t, samples.Same(17, task), api.ErrArg)
		isWrong(t, samples.Same(18, task), api.ErrArg)
	}
}

func TestRowsThatMayNotBe(t *testing.T) { // P12.1, P12.2, P12.3, P1, R2
	good := api.Task{ID: 1, C: 1, D: 1, T: 1, Modes: 1}
	for _, l := range samples.Refused() {
		isWrong(t, l, api.ErrArg)
		areModes(t, l, api.ErrArg, api.ErrArg, api.ErrArg, api.ErrArg)
		if got := Room(l, good); got != 0 {
			t.Errorf("Room(%v, %v): %d, want 0", l, good, got)
		}
	}
}

func TestTheGreatestPeriod(t *testing.T) { // P12.1, P12.2
	fits(t, named(1<<20, 1<<20, 1<<20))
	fits(t, named(1<<20-1, 1<<20, 1<<20, 1, 1<<20, 1<<20))
	misses(t, named(1<<20-1, 1<<20-1, 1<<20, 1, 1<<20-1, 1<<20), 1<<20-1, 1<<20-1)
	fits(t, named(1, 1, 1<<10, 2, 4, 1<<20), 1)
	isWrong(t, named(1, 1<<19, 1<<19, 1, 3, 3), api.ErrOver)
	isWrong(t, named(1, 1<<20, 1<<20, 1, 3, 3), api.ErrOver)
	isWrong(t, named(1, 1024, 1024, 1, 1025, 1025), api.ErrOver)
	isWrong(t, named(1, 1, 1<<20-1, 1, 1, 1<<20), api.ErrOver)
	isWrong(t, named(1<<31, 1<<31, 1<<31, 1<<31, 1<<31, 1<<31), api.ErrOver)
}

func TestLoadsAround1(t *testing.T) { // P12.1, P12.2
	isCounted(t, named(1, 2, 2, 1, 3, 3, 9, 60, 60))
	isCounted(t, named(1, 2, 2, 1, 3, 3, 10, 60, 60))
	loadsTooMuch(t, named(1, 2, 2, 1, 3, 3, 11, 60, 60))
	fits(t, named(1, 2, 2, 1, 3, 3, 1, 6, 6), 4, 3)
	loadsTooMuch(t, named(3, 4, 4, 2, 6, 6))
	isCounted(t, named(1, 2, 2, 1<<19-1, 1<<20, 1<<20))
	isCounted(t, named(1, 2, 2, 1<<19, 1<<20, 1<<20))
	loadsTooMuch(t, named(1, 2, 2, 1<<19+1, 1<<20, 1<<20))
	loadsTooMuch(t, named(1<<20, 1<<20, 1<<20, 1, 1<<20, 1<<20))

	// What loads too much tells no time, even if there is too much work at the first one.
	loadsTooMuch(t, samples.Same(2, named(1, 1, 1)[0]))
	loadsTooMuch(t, samples.Same(16, named(1, 1, 1)[0]))
	loadsTooMuch(t, named(1, 1, 2, 1, 1, 2, 1, 2, 60))
	misses(t, named(1, 1, 2, 1, 1, 2), 1, 1)
	fits(t, named(1, 1, 2, 1, 2, 3, 1, 6, 6), 5, 3, 2, 1)
	misses(t, named(1, 1, 2, 1, 2, 3, 1, 5, 6), 5, 5)
}

func TestManyLoadsAround1(t *testing.T) { // P12.1, P12.2
	draw := samples.Drawing(1)
	fit, miss := 0, 0
	for i := range 1500 {
		whole := []int64{6, 12, 60, 360, 2520, 720720, 1 << 20}[i%7]
		if whole > 2520 && i > 30 {
			continue
		}
		for _, left := range []int64{0, 1} {
			if isCounted(t, nearlyFull(draw, whole, left)).test == api.OK {
				fit++
			} else {
				miss++
			}
		}
		if over, ok := samples.Filled(samples.Dividing(draw, whole), whole, -1); ok {
			loadsTooMuch(t, over)
		}
	}
	if fit < 300 || miss < 300 {
		t.Errorf("%d rows of a load around 1 fit, %d don't: too few of one kind", fit, miss)
	}
}

func TestTasksThatJustFit(t *testing.T) { // P12.1
	fits(t, named(2, 3, 5, 2, 4, 6), 3)
	misses(t, named(2, 3, 5, 3, 4, 6), 4, 4)
	misses(t, named(2, 3, 5, 2, 3, 6), 3, 3)

	// With one more C, or one less D, of any of them, they don't fit, or are no tasks.
	fits(t, named(1, 1, 4, 2, 3, 6, 1, 4, 12), 3, 1)
	misses(t, named(1, 1, 4, 3, 3, 6, 1, 4, 12), 3, 5)
	misses(t, named(1, 1, 4, 2, 3, 6, 2, 4, 12), 4, 5)
	misses(t, named(1, 1, 4, 2, 2, 6, 1, 4, 12), 2, 2)
	misses(t, named(1, 1, 4, 2, 3, 6, 1, 3, 12), 3, 3)
	isWrong(t, named(2, 1, 4, 2, 3, 6, 1, 4, 12), api.ErrArg)
	isWrong(t, named(1, 0, 4, 2, 3, 6, 1, 4, 12), api.ErrArg)
}

func TestWhereThereIsFirstMoreWorkThanTime(t *testing.T) { // P12.1
	misses(t, named(1, 1, 4, 1, 1, 4), 1, 1)
	misses(t, samples.Same(2, named(1, 1, 1<<20)[0]), 1, 1)
	// The path comes to a later one ahead of it.
	misses(t, named(1, 1, 4, 1, 1, 4, 1, 1, 4, 1, 2, 4), 1, 2)
	misses(t, named(2, 2, 20, 1, 2, 20, 1, 8, 20, 6, 9, 20), 2, 9)
	misses(t, named(1, 1, 2, 1<<19, 1<<19, 1<<20), 1<<19, 1<<20-1)
	misses(t, named(1, 1, 4, 1, 1, 4, 1<<19, 1<<20-1, 1<<20), 1, 1<<20-1)

	// Just ahead of the length.
	misses(t, named(1, 1, 2, 3, 5, 6), 5, 5)
	misses(t, named(1, 1, 2, 1<<19, 1<<20-1, 1<<20), 1<<20-1, 1<<20-1)
	misses(t, named(1<<19, 1<<20-1, 1<<20, 1, 1, 2), 1<<20-1, 1<<20-1)
	misses(t, named(1<<20-1, 1<<20-1, 1<<20, 1, 1<<20-1, 1<<20), 1<<20-1, 1<<20-1)
	misses(t, named(1, 1, 2, 1<<19, 1<<20-2, 1<<20), 1<<20-2, 1<<20-1)
	// At the length itself there is just enough.
	fits(t, samples.Same(2, named(3, 6, 6)[0]))
	fits(t, samples.Same(2, named(1<<19, 1<<20, 1<<20)[0]))
}

func TestThereIsNoPathWithoutADeadlineBelowTheLength(t *testing.T) { // P12.2
	fits(t, named(1, 1, 1))
	fits(t, named(2, 3, 5))
	fits(t, named(2, 2, 5))
	fits(t, named(2, 5, 5, 2, 6, 6))
	fits(t, named(2, 4, 5, 2, 4, 6))
	fits(t, named(2, 4, 5, 2, 5, 6))
	misses(t, named(2, 3, 5, 2, 3, 6), 3, 3)
	fits(t, named(1, 3, 9, 1, 3, 9, 1, 3, 9))
}

func TestShortPaths(t *testing.T) { // P12.2
	// Of one time: there is more work, or not more than busy.Least.
	misses(t, named(1, 1, 4, 1, 1, 4), 1, 1)
	fits(t, named(1, 1, 4, 2, 4, 6), 1)
	fits(t, named(2, 2, 9, 1, 4, 9, 1, 8, 9), 2)
	fits(t, named(1, 2, 9, 1, 4, 9, 1, 8, 9), 2)
	// It ends above busy.Least as there is just as much work as that, and goes on if there is one more.
	fits(t, named(1, 3, 10, 1, 4, 10, 1, 5, 10, 3, 9, 10), 5)
	fits(t, named(1, 3, 10, 1, 4, 10, 2, 5, 10, 2, 9, 10), 5, 4)
	fits(t, named(1, 3, 10, 2, 4, 10, 1, 5, 10, 2, 9, 10), 5, 4)
	fits(t, named(2, 3, 10, 2, 4, 10, 2, 9, 10), 4, 3)
	fits(t, named(3, 3, 10, 1, 4, 10, 1, 5, 10, 1, 9, 10), 5, 4, 3)
	// Work is just as much as time, so that the deadline ahead comes next.
	fits(t, named(1, 2, 4, 2, 3, 6, 1, 4, 12), 3, 2)
	fits(t, named(2, 2, 20, 2, 4, 20, 4, 8, 20, 1, 20, 20), 8, 4, 2)
	fits(t, named(1, 2, 20, 3, 4, 20, 4, 8, 20, 1, 20, 20), 8, 4, 2)
	// It ends at more work than time behind times at which there is not, some of which are no deadlines.
	misses(t, named(2, 2, 10, 1, 2, 10, 1, 5, 10, 2, 9, 10), 2, 5, 4, 3, 2)
	misses(t, named(1, 1, 4, 2, 2, 6, 1, 4, 12), 2, 2)
	// And at the first such time, even if there are others.
	misses(t, named(2, 2, 20, 1, 2, 20, 1, 8, 20, 6, 9, 20), 2, 9)
}

func TestLongPaths(t *testing.T) { // P12.1, P12.2
	// 32 are all that is left for the last one, and it needs them just behind 31 times 2^15.
	for _, c := range []int64{31, 32} {
		for _, d := range []int64{1 << 20, 1<<20 - 1, 31<<15 + 1, 31 << 15, 31<<15 - 1, 30<<15 + 1, 30 << 15} {
			l := samples.Halves(c, d)
			p := isCounted(t, l)
			if n := len(Path(l)); p.test == api.OK && n < 30000 {
				t.Errorf("Path(%v): just %d of them", l, n)
			}
		}
	}
	isCounted(t, samples.Halves(1, 1<<20))
	isCounted(t, samples.Halves(1, 1))
	loadsTooMuch(t, samples.Halves(33, 1<<20))
	for _, l := range [][]api.Task{
		named(1, 2, 2, 1<<19, 1<<20, 1<<20), named(1, 1, 2, 1<<19, 1<<20, 1<<20), named(511, 1023, 1023, 513, 1025, 1025), named(511, 1000, 1023, 513, 1025, 1025),
		named(1, 2, 2, 1, 3, 3, 1, 7, 7, 41, 1806, 1806), named(1, 2, 2, 1, 3, 3, 1, 7, 7, 42, 1806, 1806), named(1023, 1024, 1024, 1023, 1<<20, 1<<20), named(1023, 1023, 1024, 1024, 1<<20, 1<<20),
		named(1, 1, 2, 1, 2, 4, 1, 2, 8, 1, 2, 1<<20),
	} {
		isCounted(t, l)
	}
}

func TestTheErrorThatIsNamedFirst(t *testing.T) { // P12.1, R2
	over := named(1, 1, 1, 1, 1, 1)
	loadsTooMuch(t, over)
	tooGreat := append(over, named(1<<31, 1<<31, 1<<31)...)
	isWrong(t, tooGreat, api.ErrOver)
	late := append(named(1, 1, 4, 1, 1, 4), named(1, 1<<21, 1<<21)...)
	isWrong(t, late, api.ErrOver)
	for _, bad := range samples.Wrong() {
		isWrong(t, append(slices.Clone(tooGreat), bad), api.ErrArg)
		isWrong(t, append([]api.Task{bad}, tooGreat...), api.ErrArg)
		isWrong(t, append(slices.Clone(over), bad), api.ErrArg)
	}
	isWrong(t, append(samples.Same(14, over[0]), tooGreat...), api.ErrArg)
}

func TestModes(t *testing.T) { // P12.1, R1, R2
	const most = 1 << 31
	// One task, in one mode, in some and in all; two that don't fit together.
	for modes := int64(1); modes < 16; modes++ {
		areModes(t, moded(modes, 1, 1, 1), api.OK, api.OK, api.OK, api.OK)
		var want []api.Errno
		for _, bit := range []int64{1, 2, 4, 8} {
			want = append(want, api.OK)
			if modes&bit != 0 {
				want[len(want)-1] = api.ErrLoad
			}
		}
		areModes(t, moded(modes, 1, 1, 4, modes, 1, 1, 4), want...)
		areModes(t, moded(modes, 1, 1, 4, 15, 1, 1, 4), want...)
		areModes(t, moded(modes, 1, 1, 1, modes, 1, 1, 1), want...)
	}
	areModes(t, moded(1, 1, 1, 1, 2, 1, 1, 1, 4, 1, 1, 1, 8, 1, 1, 1), api.OK, api.OK, api.OK, api.OK)
	areModes(t, moded(1, 2, 2, 4, 3, 2, 2, 4, 6, 1, 4, 4), api.ErrLoad, api.OK, api.OK, api.OK)
	areModes(t, moded(3, 2, 2, 4, 6, 2, 2, 4, 12, 1, 4, 4), api.OK, api.ErrLoad, api.OK, api.OK)
	areModes(t, moded(1, 2, 3, 5, 3, 2, 4, 6, 10, 3, 3, 5), api.OK, api.ErrLoad, api.OK, api.OK)
	areModes(t, moded(9, 2, 3, 5, 12, 3, 4, 6, 4, 2, 2, 4), api.OK, api.OK, api.ErrLoad, api.ErrLoad)

	// Of all of them at once there would be another error.
	areModes(t, moded(1, 1, 1024, 1024, 2, 1, 1025, 1025), api.OK, api.OK, api.OK, api.OK)
	areModes(t, moded(3, 1, 1024, 1024, 6, 1, 1025, 1025), api.OK, api.ErrOver, api.OK, api.OK)
	areModes(t, moded(8, 1, most, most), api.OK, api.OK, api.OK, api.ErrOver)
	areModes(t, moded(8, 1, most, most, 15, 1, 1, 4), api.OK, api.OK, api.OK, api.ErrOver)
	areModes(t, moded(2, 3, 4, 4, 2, 2, 4, 4), api.OK, api.ErrLoad, api.OK, api.OK)
	areModes(t, moded(1, 1, most, most, 2, 1, 1, 1, 2, 1, 1, 1, 4, 1, 1, 4, 4, 1, 1, 4), api.ErrOver, api.ErrLoad, api.ErrLoad, api.OK)
	areModes(t, moded(1, 1, 1, 1, 15, 1, most, most), api.ErrOver, api.ErrOver, api.ErrOver, api.ErrOver)

	// 16 in one mode, and 17 in many of which each has just a few.
	areModes(t, samples.Same(16, moded(4, 1, 16, 16)[0]), api.OK, api.OK, api.OK, api.OK)
	areModes(t, samples.Same(16, moded(4, 1, 15, 16)[0]), api.OK, api.OK, api.ErrLoad, api.OK)
	many := moded(1, 1, 9, 9, 2, 1, 9, 9, 4, 1, 9, 9, 8, 1, 9, 9)
	areModes(t, slices.Repeat(many, 4), api.OK, api.OK, api.OK, api.OK)
	areModes(t, append(slices.Repeat(many, 4), many[0]), api.ErrArg, api.ErrArg, api.ErrArg, api.ErrArg)
	for _, bad := range samples.Wrong() {
		areModes(t, []api.Task{bad}, api.ErrArg, api.ErrArg, api.ErrArg, api.ErrArg)
		areModes(t, append(slices.Clone(many), bad), api.ErrArg, api.ErrArg, api.ErrArg, api.ErrArg)
	}
}

func TestRoomAtItsEdges(t *testing.T) { // P12.3, R1
	const most = 1 << 31
	cases := []struct {
		l          []api.Task
		d, p, want int64
	}{
		// Of none it is all of D, if the period is not too great.
		{nil, 1, 1, 1}, {nil, 4, 9, 4}, {nil, 9, 9, 9}, {[]api.Task{}, 1, 9, 1}, {nil, 1 << 20, 1 << 20, 1 << 20}, {nil, 1, 1 << 20, 1},
		{nil, 1, 1<<20 + 1, 0}, {nil, 1<<20 + 1, 1<<20 + 1, 0}, {nil, most, most, 0}, {nil, 1, most, 0},
		// Of one: none, 1, some, and D.
		{named(1, 1, 1), 5, 5, 0}, {named(1, 1, 4), 1, 4, 0}, {named(4, 4, 9), 4, 9, 0}, {named(1, 2, 2), 2, 2, 1}, {named(1, 1, 4), 2, 4, 1},
		{named(3, 4, 4), 1, 4, 1}, {named(4, 4, 4), 4, 4, 0}, {named(1, 4, 4), 4, 4, 3}, {named(2, 3, 5), 4, 6, 2}, {named(2, 4, 6), 3, 5, 2},
		{named(1, 8, 8), 4, 8, 4}, {named(1, 8, 8), 7, 8, 7}, {named(1, 8, 8), 8, 8, 7}, {named(1, 2, 2), 1, 1 << 20, 1}, {named(1, 2, 2), 1 << 20, 1 << 20, 1 << 19},
		{named(1<<20-1, 1<<20, 1<<20), 1 << 20, 1 << 20, 1}, {named(1<<20, 1<<20, 1<<20), 1 << 20, 1 << 20, 0}, {named(1, 1<<20, 1<<20), 1 << 20, 1 << 20, 1<<20 - 1},
		// One with it has too great a period, or has none by itself.
		{named(1, 1<<20, 1<<20), 2, 2, 1}, {named(1, 1<<20, 1<<20), 3, 3, 0}, {named(1, 1024, 1024), 1, 1023, 1}, {named(1, 1024, 1024), 1, 1025, 0},
		{named(1, 1, 1<<20+1), 1, 2, 0}, {named(1, most, most), 1, 2, 0}, {named(1, most, most), most, most, 0},
		// What does not fit by itself.
		{named(1, 1, 4, 1, 1, 4), 4, 4, 0}, {named(1, 1, 1, 1, 1, 1), 4, 4, 0}, {named(3, 3, 5, 2, 4, 6), 30, 30, 0}, {named(1, 2, 2, 2, 3, 3), 30, 30, 0},
		// 15 and 16, and 17.
		{samples.Same(15, named(1, 16, 16)[0]), 16, 16, 1}, {samples.Same(15, named(1, 100, 100)[0]), 100, 100, 85}, {samples.Same(15, named(1, 100, 100)[0]), 85, 100, 85},
		{samples.Same(15, named(1, 15, 100)[0]), 15, 100, 0}, {samples.Same(15, named(1, 15, 100)[0]), 100, 100, 85}, {samples.Same(15, named(1, 15, 100)[0]), 16, 100, 1},
		{samples.Same(16, named(1, 100, 100)[0]), 100, 100, 0}, {samples.Same(16, named(1, 16, 16)[0]), 16, 16, 0}, {samples.Same(17, named(1, 100, 100)[0]), 100, 100, 0},
		// Many, with a period of 2^20.
		{samples.Halves(1, 1<<20)[:15], 1 << 20, 1 << 20, 32}, {samples.Halves(1, 1<<20)[:15], 31<<15 + 1, 1 << 20, 32}, {samples.Halves(1, 1<<20)[:15], 31 << 15, 1 << 20, 31},
		{samples.Halves(1, 1<<20)[:15], 1, 1 << 20, 1}, {samples.Halves(1, 1<<20)[1:], 1 << 20, 1 << 20, 1<<19 + 31},
		// A t that may not be, whatever C it has.
		{nil, 0, 1, 0}, {nil, 5, 4, 0}, {nil, 4, 0, 0}, {nil, 0, 0, 0}, {nil, -1, 4, 0}, {nil, 4, -1, 0}, {nil, 1, most + 1, 0}, {nil, most + 1, most + 1, 0},
		{nil, math.MinInt64, 4, 0}, {nil, math.MaxInt64, 4, 0}, {nil, math.MaxInt64, math.MaxInt64, 0}, {nil, math.MinInt64, math.MinInt64, 0}, {named(1, 4, 4), 5, 4, 0},
	}
	for _, c := range cases {
		isRoom(t, c.l, c.d, c.p, c.want)
	}
}

func TestRoomOfATaskThatMayNotBe(t *testing.T) { // P12.3, P1
	for _, bad := range []api.Task{
		{}, {ID: -1, C: 1, D: 1, T: 1, Modes: 1}, {ID: 1024, C: 1, D: 1, T: 1, Modes: 1}, {ID: 1, C: 1, D: 1, T: 1, Modes: 0}, {ID: 1, C: 1, D: 1, T: 1, Modes: 16}, {ID: 1, C: 1, D: 1, T: 1, Modes: -1},
		{ID: 1, C: 1, D: 2, T: 1, Modes: 1}, {ID: 1, C: 1, D: 0, T: 1, Modes: 1}, {ID: 1, C: 1, D: 1, T: 1<<31 + 1, Modes: 1},
	} {
		for _, l := range [][]api.Task{nil, named(1, 4, 4), named(2, 3, 5, 2, 4, 6), samples.Same(15, named(1, 100, 100)[0]), samples.Same(17, named(1, 100, 100)[0])} {
			if got := Room(l, bad); got != 0 {
				t.Errorf("Room(%v, %v): %d, want 0", l, bad, got)
			}
		}
	}
	for _, good := range []api.Task{{ID: 0, C: 1, D: 3, T: 4, Modes: 1}, {ID: 1023, C: 1, D: 3, T: 4, Modes: 15}, {ID: 7, C: 1, D: 3, T: 4, Modes: 8}} {
		if got := Room(named(1, 4, 4), good); got != 3 {
			t.Errorf("Room(1 of 4, %v): %d, want 3", good, got)
		}
	}
}

func TestAllCallsAreAsAPlainCountTells(t *testing.T) { // P12.1, P12.2
	draw := samples.Drawing(2)
	found := map[api.Errno]int{}
	early, late, down := 0, 0, 0
	for range 10000 {
		l := some(draw)
		p := isCounted(t, l)
		found[p.test]++
		switch {
		case p.miss == 0 && len(p.path()) > 3:
			down++
		case p.miss > 0 && p.miss <= p.length/2:
			early++
		case p.miss > p.length*3/4:
			late++
		}
	}
	if found[api.OK] < 1000 || found[api.ErrLoad] < 1000 || found[api.ErrOver] < 100 {
		t.Errorf("%v: too few of one kind", found)
	}
	if early < 200 || late < 300 || down < 300 {
		t.Errorf("%d early, %d late, %d on long ways down: too few of one kind", early, late, down)
	}
}

func TestTasksThatFitDoSoAtAllLaterTimes(t *testing.T) { // P12.1
	draw := samples.Drawing(3)
	fit := 0
	for range 2000 {
		l := some(draw)
		if Test(l) != api.OK {
			continue
		}
		fit++
		for x, work := range dues(l, 3*samples.Common(l)) {
			if work > int64(x) {
				t.Errorf("%v: work of %d at %d", l, work, x)
				break
			}
		}
	}
	if fit < 500 {
		t.Errorf("just %d rows fit: too few", fit)
	}
}

func TestTimesOfAPathFallAndItsLastOneTells(t *testing.T) { // P12.2
	draw := samples.Drawing(4)
	long, bad := 0, 0
	for i := range 6000 {
		l := some(draw)
		if i%200 == 0 {
			l = samples.Halves(1+draw(32), 1+draw(1<<20))
		}
		path := Path(l)
		if over, err := param.Over(l); over || err != api.OK {
			if len(path) != 0 {
				t.Errorf("Path(%v): %v, want none", l, path)
			}
			continue
		}
		length, _ := busy.Length(l)
		first, ok := demand.Before(l, length)
		if len(path) == 0 {
			if ok || Test(l) != api.OK {
				t.Errorf("Path(%v): none, Test %v, and %d is ahead of the length", l, Test(l), first)
			}
			continue
		}
		if path[0] != first {
			t.Errorf("Path(%v): %d at first, want %d", l, path[0], first)
		}
		for i := 1; i < len(path); i++ {
			isNext(t, l, path[i-1], path[i])
		}
		last := path[len(path)-1]
		work := demand.Of(l, last)
		if work <= last && work > busy.Least(l) {
			t.Errorf("Path(%v): it ends at %d, with work of %d", l, last, work)
		}
		if got := Test(l); (got == api.OK) != (work <= last) {
			t.Errorf("Test(%v): %v, and work of %d at %d, the last one of the path", l, got, work, last)
		}
		if len(path) > 3 {
			long++
		}
		if work > last {
			bad++
		}
	}
	if long < 500 || bad < 500 {
		t.Errorf("%d long paths, %d that end at more work than time: too few", long, bad)
	}
}

// isNext looks at times of a path one behind the other.
func isNext(t *testing.T, l []api.Task, x, next int64) {
	t.Helper()
	work := demand.Of(l, x)
	want := work
	if work == x {
		want, _ = demand.Before(l, x)
	}
	if work > x || work <= busy.Least(l) || next != want || next >= x {
		t.Errorf("Path(%v): %d behind %d, with work of %d", l, next, x, work)
	}
}

func TestRoomIsAsAPlainCountTells(t *testing.T) { // P12.3
	draw := samples.Drawing(5)
	found := map[string]int{}
	for range 1500 {
		l := some(draw)
		l = l[:min(len(l), int(draw(7)))]
		p := []int64{1, 2, 3, 4, 5, 6, 10, 12, 20, 30, 60}[draw(11)]
		d := 1 + draw(p)
		want := int64(0)
		for c := int64(1); c <= d; c++ {
			if count(append(slices.Clone(l), named(c, d, p)...)).test == api.OK {
				want = c
			}
		}
		isRoom(t, l, d, p, want)
		found[kind(want, d)]++
	}
	for _, k := range []string{"none", "1", "some", "D"} {
		if found[k] < 100 {
			t.Errorf("just %d of %s: too few", found[k], k)
		}
	}
}

// kind is what kind of room there is of d.
func kind(room, d int64) string {
	switch room {
	case 0:
		return "none"
	case d:
		return "D"
	case 1:
		return "1"
	}
	return "some"
}

func TestRoomIsTheGreatestCThatFits(t *testing.T) { // P12.3
	draw := samples.Drawing(6)
	for i := range 1000 {
		l := some(draw)
		task := api.Task{ID: int(draw(1024)), C: 1, D: 0, T: []int64{60, 120, 360, 840, 2520}[i%5], Modes: 1 + int(draw(15))}
		task.D = 1 + draw(task.T)
		want := int64(0)
		for task.C = 1; task.C <= task.D; task.C++ {
			fits := Test(append(slices.Clone(l), task)) == api.OK
			if fits && want != task.C-1 {
				t.Errorf("%v and %v fit, and with less C they don't", l, task)
			}
			if fits {
				want = task.C
			}
		}
		task.C = draw(3 * task.T)
		if got := Room(l, task); got != want {
			t.Errorf("Room(%v, %v): %d, want %d", l, task, got, want)
		}
		if want > 0 && Test(l) != api.OK {
			t.Errorf("%v do not fit, and there is room of %d in them", l, want)
		}
	}
}

func TestRoomOfGreatD(t *testing.T) { // P12.3
	draw := samples.Drawing(7)
	for range 300 {
		l := samples.Dividing(draw, 1<<20)
		d := 1 + draw(1<<20)
		room := Room(l, named(1, d, 1<<20)[0])
		for c := max(1, room-1); c <= min(d, room+1); c++ {
			got := Test(append(slices.Clone(l), named(c, d, 1<<20)...)) == api.OK
			if want := c <= room; got != want {
				t.Errorf("%v with %d in %d of 2^20: they fit %v, and there is room of %d", l, c, d, got, room)
			}
		}
	}
}

func TestIDAndModesAndTheOrderCountForNothing(t *testing.T) { // P12.1, P12.2, P12.3
	draw := samples.Drawing(8)
	for range 1000 {
		l := some(draw)
		other := slices.Clone(l)
		slices.Reverse(other)
		for i := range other {
			other[i].ID, other[i].Modes = int(draw(1024)), 1+int(draw(15))
		}
		miss, err := Miss(l)
		is(t, other, Test(l), miss, err, Path(l)...)
		task := named(1, 60, 60)[0]
		if a, b := Room(l, task), Room(other, task); a != b {
			t.Errorf("Room(%v): %d, of %v %d", l, a, other, b)
		}
		turned := slices.Clone(l)
		slices.Reverse(turned)
		if a, b := Modes(l), Modes(turned); a != b {
			t.Errorf("Modes(%v): %v, turned round %v", l, a, b)
		}
	}
}

func TestWhatIsHandedInStaysAsItIs(t *testing.T) { // R3
	draw := samples.Drawing(9)
	rows := samples.Refused()
	for range 500 {
		rows = append(rows, some(draw))
	}
	for _, l := range rows {
		// What lies behind the row stays as well.
		l = append(slices.Clone(l), named(1, 1, 1, 2, 2, 2)...)
		before := slices.Clone(l)
		row := l[:len(l)-2]
		Test(row)
		Miss(row)
		Path(row)
		Modes(row)
		for _, task := range named(5, 60, 60, 1, 1, 4, 0, 7, 12) {
			Room(row, task)
		}
		if !slices.Equal(l, before) {
			t.Errorf("%v became %v", before, l)
		}
	}
}

func TestWhatPathTellsIsTheCallersOwn(t *testing.T) { // P12.2, R3, R4
	draw := samples.Drawing(10)
	for range 500 {
		if l := some(draw); !samples.IsOwn(Path, l) {
			t.Errorf("Path(%v): not the same twice, or not the caller's own", l)
		}
	}
}

func TestAllCallsEndAtAllArguments(t *testing.T) { // P1, R4, R5
	numbers := []int64{math.MinInt64, -1, 0, 1, 2, 3, 1<<20 - 1, 1 << 20, 1<<20 + 1, 1<<31 - 1, 1 << 31, 1<<31 + 1, math.MaxInt64}
	for _, c := range numbers {
		for _, d := range numbers {
			for _, p := range numbers {
				task := api.Task{ID: 1, C: c, D: d, T: p, Modes: 5}
				l := []api.Task{task, {ID: 1, C: 1, D: 1, T: 1 << 20, Modes: 3}}
				if 1 <= c && c <= d && d <= p && p <= 1<<31 {
					isCounted(t, l)
				} else {
					isWrong(t, l, api.ErrArg)
				}
				for _, other := range []api.Task{task, named(1, 1, 1)[0], named(1, 1<<20, 1<<20)[0]} {
					room := Room(l, other)
					if room < 0 || room > 0 && room > other.D || room != Room(l, other) {
						t.Errorf("Room(%v, %v): %d", l, other, room)
					}
				}
			}
		}
	}
	for _, n := range []int{1 << 10, 1 << 16} {
		l := samples.Same(n, api.Task{ID: 1, C: 1, D: 1, T: 1, Modes: 1})
		isWrong(t, l, api.ErrArg)
		areModes(t, l, api.ErrArg, api.ErrArg, api.ErrArg, api.ErrArg)
		isRoom(t, l, 100, 100, 0)
	}
}
