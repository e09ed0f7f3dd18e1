package judge

import (
	"fmt"
	"math"
	"slices"
	"testing"

	"horarium/api"
	"horarium/qpa"
	"horarium/samples"
)

// of are the tasks of t that are in that mode, as a plain count of bits tells.
func of(t api.Table, mode int) []api.Task {
	bits := []int{1, 2, 4, 8}
	var l []api.Task
	for _, r := range t.Rows {
		if r.Task.Modes&bits[mode] != 0 {
			l = append(l, r.Task)
		}
	}
	return l
}

// first is the first mode of a table that may be whose tasks do not fit, as the chapter's words tell it.
func first(t api.Table) (int, api.Errno) {
	told := []api.Errno{qpa.Test(of(t, 0)), qpa.Test(of(t, 1)), qpa.Test(of(t, 2)), qpa.Test(of(t, 3))}
	for mode := 0; mode < 4; mode++ {
		if told[mode] != api.OK {
			return mode, told[mode]
		}
	}
	return -1, api.OK
}

// with is what With tells of a table that may be, as the chapter's words tell it.
func with(t api.Table, extra []api.Task) api.Errno {
	_, err := first(t)
	all := append(of(t, t.Mode), extra...)
	switch {
	case err != api.OK:
		return err
	case len(all) > 16:
		return api.ErrFull
	}
	return qpa.Test(all)
}

// brief tells how many tasks l has, and what the first of them are.
func brief(l []api.Task) string {
	return fmt.Sprintf("%d tasks: %v", len(l), l[:min(len(l), 6)])
}

// judges looks at what Fits and First tell of x, and that it stays as it is.
func judges(t *testing.T, x api.Table, mode int, want api.Errno) {
	t.Helper()
	given, all := samples.Roomy(x)
	kept := slices.Clone(all)
	for range 2 {
		if got := Fits(given); got != want {
			t.Errorf("Fits(%v): error %d, want %d", x, got, want)
		}
		if got, err := First(given); got != mode || err != want {
			t.Errorf("First(%v): %d, error %d, want %d, %d", x, got, err, mode, want)
		}
	}
	if !slices.Equal(all, kept) {
		t.Errorf("Fits and First of %v: what was given is %v", x, all)
	}
}

// joins looks at what With tells of x and extra, and that both stay as they are.
func joins(t *testing.T, x api.Table, extra []api.Task, want api.Errno) {
	t.Helper()
	given, all := samples.Roomy(x)
	more, rest := samples.Amid(extra)
	kept, left := slices.Clone(all), slices.Clone(rest)
	for range 2 {
		if got := With(given, more); got != want {
			t.Errorf("With(%v, %s): error %d, want %d", x, brief(extra), got, want)
		}
	}
	if !slices.Equal(all, kept) || !slices.Equal(rest, left) {
		t.Errorf("With(%v, %s): what was given is %v, %s", x, brief(extra), all, brief(rest))
	}
}

// fits looks at a set that does, with no extra tasks too.
func fits(t *testing.T, x api.Table) {
	t.Helper()
	judges(t, x, -1, api.OK)
	joins(t, x, nil, api.OK)
	joins(t, x, []api.Task{}, api.OK)
}

// doesNot looks at a set that does not fit, and at that With tells just that of it, whatever extra is.
func doesNot(t *testing.T, x api.Table, mode int, want api.Errno) {
	t.Helper()
	judges(t, x, mode, want)
	for _, extra := range samples.Extras() {
		joins(t, x, extra, want)
	}
}

// in is a copy of x, of that Mode.
func in(x api.Table, mode int) api.Table {
	x = samples.Copied(x)
	x.Mode = mode
	return x
}

func TestTablesThatMayNotBe(t *testing.T) { // P15.1, P1
	// Some of them do not fit, too.
	for _, x := range append(samples.WrongTables(), samples.Rising(5000), api.Table{Rows: make([]api.Row, 3), Mode: -9}) {
		doesNot(t, x, -1, api.ErrArg)
	}
	for _, m := range append(samples.TooMuch(), samples.TooLong()...) {
		good := samples.Set(1, m.In(15)...)
		doesNot(t, good, 0, m.Err)
		for _, mode := range []int{-1, 4, math.MinInt, math.MaxInt} {
			doesNot(t, in(good, mode), -1, api.ErrArg)
		}
		for _, bad := range samples.Wrong() {
			for at := range good.Rows {
				doesNot(t, samples.Altered(good, at, func(r *api.Row) { r.Task = bad }), -1, api.ErrArg)
			}
		}
		doesNot(t, samples.Altered(good, 0, func(r *api.Row) { r.Task.ID = 20 }), -1, api.ErrArg)
		doesNot(t, samples.Altered(good, 0, func(r *api.Row) { r.Task.ID = 21 }), -1, api.ErrArg)
		doesNot(t, samples.Altered(good, 0, func(r *api.Row) { r.Server, r.Task.T = true, r.Task.T+1 }), -1, api.ErrArg)
	}
	doesNot(t, samples.Smalls(0, 15, 17, 1, 0), -1, api.ErrArg)
	doesNot(t, samples.Smalls(0, 1, 4, 2, 13), -1, api.ErrArg)
}

func TestTablesWithoutRows(t *testing.T) { // P15.1, R1
	for mode := range 4 {
		fits(t, api.Table{Mode: mode})
		fits(t, api.Table{Rows: []api.Row{}, Mode: mode})
		doesNot(t, api.Table{Mode: 4 + mode}, -1, api.ErrArg)
		doesNot(t, api.Table{Mode: -1 - mode}, -1, api.ErrArg)
	}
}

func TestSetsThatFit(t *testing.T) { // P15.1
	for _, x := range samples.Fitting() {
		for mode := range 4 {
			fits(t, in(x, mode))
		}
	}
}

func TestServersCountAsTasks(t *testing.T) { // P15.1
	for _, servers := range [][]bool{{true, false}, {false, true}, {true, true}} {
		serve := func(x api.Table) api.Table {
			for i := range x.Rows {
				x.Rows[i].Server = servers[i]
			}
			return x
		}
		fits(t, serve(samples.Set(0, 15, 1, 2, 2, 15, 1, 2, 2)))
		fits(t, serve(samples.Set(1, 4, 4, 4, 4, 8, 4, 4, 4)))
		doesNot(t, serve(samples.Set(2, 15, 1, 2, 2, 2, 2, 3, 3)), 1, api.ErrLoad)
		doesNot(t, serve(samples.Set(3, 12, 1, 1024, 1024, 15, 1, 1025, 1025)), 2, api.ErrOver)
	}
}

// ahead are small tasks, that fit by themselves and in their company, in each of the modes below that.
func ahead(mode int) []int64 {
	var numbers []int64
	for m := range mode {
		numbers = append(numbers, 1<<m, 1, 4, 4, 1<<m, 1, 8, 8)
	}
	return numbers
}

// inEach looks at the set of these tasks, of each Mode.
func inEach(t *testing.T, numbers []int64, mode int, want api.Errno) {
	t.Helper()
	for own := range 4 {
		x := samples.Set(own, numbers...)
		doesNot(t, x, mode, want)
		if m, err := first(x); m != mode || err != want {
			t.Errorf("%v: %d, error %d by the words, want %d, %d", x, m, err, mode, want)
		}
	}
}

func TestTheFirstModeThatDoesNotFit(t *testing.T) { // P15.1
	for mode := range 4 {
		for _, m := range append(samples.TooMuch(), samples.TooLong()...) {
			// In this mode alone, and in it and in all behind it.
			inEach(t, m.In(1<<mode), mode, m.Err)
			inEach(t, m.In(16-1<<mode), mode, m.Err)
			inEach(t, append(ahead(mode), m.In(1<<mode)...), mode, m.Err)
		}
	}
}

func TestOneModeAloneHasBothTasks(t *testing.T) { // P15.1
	for mode := range 4 {
		// Each task fits without the other one: this mode has both, each other mode the one of them; and then no mode has both.
		for _, m := range append(samples.TooMuch(), samples.TooLong()[2]) {
			for at := range 2 {
				numbers := m.In(15)
				numbers[4*at] = 1 << mode
				inEach(t, numbers, mode, m.Err)
				numbers[4*(1-at)] = 15 - 1<<mode
				for own := range 4 {
					fits(t, samples.Set(own, numbers...))
				}
			}
		}
	}
}

func TestTheFirstModeOfManyThatDoNotFit(t *testing.T) { // P15.1
	for mode := range 4 {
		for behind := mode + 1; behind < 4; behind++ {
			for _, work := range samples.TooMuch() {
				for _, long := range samples.TooLong() {
					inEach(t, append(work.In(1<<mode), long.In(1<<behind)...), mode, api.ErrLoad)
					inEach(t, append(long.In(1<<mode), work.In(1<<behind)...), mode, api.ErrOver)
					// The mode behind has the rows of less IDs.
					inEach(t, append(long.In(1<<behind), work.In(1<<mode)...), mode, api.ErrLoad)
					inEach(t, append(work.In(1<<behind), long.In(1<<mode)...), mode, api.ErrOver)
				}
			}
		}
	}
}

func TestWithOfHowManyTasks(t *testing.T) { // P15.1
	for mode := range 4 {
		other := int64(15 - 1<<mode)
		for n := range 17 {
			for m := range 17 - n {
				// n rows are in the set's Mode, and m are not, and don't count.
				x := samples.Smalls(mode, 1<<mode, n, other, m)
				for _, all := range []int{n, n + 1, 15, 16, 17, 18, 100, 1000} {
					if more := all - n; more >= 0 && all <= 16 {
						joins(t, x, samples.Small(more), api.OK)
					} else if more >= 0 {
						joins(t, x, samples.Small(more), api.ErrFull)
					}
				}
			}
		}
	}
	joins(t, api.Table{}, samples.Small(16), api.OK)
	joins(t, api.Table{}, samples.Small(17), api.ErrFull)
	joins(t, samples.Smalls(0, 15, 16, 1, 0), samples.Small(1), api.ErrFull)
	joins(t, samples.Smalls(0, 15, 16, 1, 0), nil, api.OK)
	joins(t, samples.Smalls(1, 1, 16, 1, 0), samples.Small(16), api.OK)
	joins(t, samples.Smalls(1, 1, 16, 1, 0), samples.Small(17), api.ErrFull)
}

func TestThatThereAreTooManyIsToldFirst(t *testing.T) { // P15.1, R2
	x := samples.Smalls(2, 4, 10, 8, 6)
	for _, bad := range append(samples.Wrong(), samples.Named(1, 1, samples.TooGreat, 1, 1, 1, 128, 128, 128)...) {
		for at := range 7 {
			extra := samples.Small(7)
			extra[at] = bad
			joins(t, x, extra, api.ErrFull)
		}
		joins(t, x, samples.Same(7, bad), api.ErrFull)
		joins(t, x, samples.Same(5000, bad), api.ErrFull)
		joins(t, x, samples.Same(6, bad), qpa.Test(append(of(x, 2), samples.Same(6, bad)...)))
	}
}

func TestWithOfExtraTasks(t *testing.T) { // P15.1
	cases := []struct {
		x     api.Table
		extra []api.Task
		want  api.Errno
	}{
		{samples.Set(0), samples.Named(1, 1, 1), api.OK},
		{samples.Set(0), samples.Named(1, 1, 1, 1, 1, 1), api.ErrLoad},
		{samples.Set(0), samples.Named(1, 1, 4, 1, 1, 4), api.ErrLoad},
		{samples.Set(0), samples.Named(1, 1, 1<<20), api.OK},
		{samples.Set(0), samples.Named(1, 1, samples.TooGreat), api.ErrOver},
		{samples.Set(0), samples.Named(1, 1024, 1024, 1, 1025, 1025), api.ErrOver},
		// A load of 1, and just above it.
		{samples.Set(0, 15, 1, 2, 2), samples.Named(1, 2, 2), api.OK},
		{samples.Set(0, 15, 1, 2, 2), samples.Named(2, 3, 3), api.ErrLoad},
		{samples.Set(0, 15, 1, 2, 2), samples.Named(1<<19, 1<<20, 1<<20), api.OK},
		{samples.Set(0, 15, 1, 2, 2), samples.Named(1<<19+1, 1<<20, 1<<20), api.ErrLoad},
		{samples.Set(0, 15, 1, 2, 2), samples.Named(1, 4, 4, 1, 4, 4), api.OK},
		{samples.Set(0, 15, 1, 2, 2), samples.Named(1, 4, 4, 1, 4, 4, 1, 1<<20, 1<<20), api.ErrLoad},
		// Just as much work as time, and too much, though the load is not above 1.
		{samples.Set(3, 15, 2, 3, 5), samples.Named(2, 4, 6), api.OK},
		{samples.Set(3, 15, 2, 3, 5), samples.Named(3, 4, 6), api.ErrLoad},
		{samples.Set(3, 15, 2, 3, 5), samples.Named(2, 3, 6), api.ErrLoad},
		// Too great a period together alone, and if all the rest is wrong, too.
		{samples.Set(1, 15, 1, 1024, 1024), samples.Named(1, 1023, 1023), api.OK},
		{samples.Set(1, 15, 1, 1024, 1024), samples.Named(1, 1025, 1025), api.ErrOver},
		{samples.Set(1, 15, 1, 1, 1), samples.Named(1, 1, samples.TooGreat), api.ErrOver},
		{samples.Set(1, 15, 1, 1, 1), samples.Named(1, 1, 1, 1, 1, 1<<31), api.ErrOver},
		// Its ID may be that of a row, or of another extra task.
		{samples.Set(0, 15, 1, 4, 4, 15, 1, 4, 4), []api.Task{{ID: 10, C: 1, D: 4, T: 4, Modes: 1}, {ID: 10, C: 1, D: 4, T: 4, Modes: 1}}, api.OK},
		{samples.Set(0, 15, 1, 4, 4, 15, 1, 4, 4), []api.Task{{ID: 20, C: 3, D: 4, T: 4, Modes: 1}}, api.ErrLoad},
	}
	for _, c := range cases {
		joins(t, c.x, c.extra, c.want)
		reversed := slices.Clone(c.extra)
		slices.Reverse(reversed)
		joins(t, c.x, reversed, c.want)
		// In which modes extra tasks are is not asked.
		for modes := 1; modes < 16; modes++ {
			others := slices.Clone(c.extra)
			for i := range others {
				others[i].Modes = modes
			}
			joins(t, c.x, others, c.want)
		}
	}
}

func TestWithAsksTheSetsModeAlone(t *testing.T) { // P15.1
	// Each mode has another load, of which all but the one leave room for what comes with it.
	loads := []int64{1, 2, 3, 4}
	x := samples.Set(0, 1, 1, 4, 4, 2, 2, 4, 4, 4, 3, 4, 4, 8, 4, 4, 4)
	for mode := range 4 {
		for c := int64(1); c <= 4; c++ {
			want := api.OK
			if loads[mode]+c > 4 {
				want = api.ErrLoad
			}
			joins(t, in(x, mode), samples.Named(c, 4, 4), want)
		}
		joins(t, in(x, mode), nil, api.OK)
	}
	// And so with the period.
	x = samples.Set(0, 1, 1, 1024, 1024, 2, 1, 1023, 1023, 4, 1, 1025, 1025, 8, 1, 2, 2)
	for mode, want := range []api.Errno{api.ErrOver, api.OK, api.OK, api.OK} {
		joins(t, in(x, mode), samples.Named(1, 1025, 1025), want)
	}
}

func TestWithOfExtraTasksThatMayNotBe(t *testing.T) { // P15.1
	for _, bad := range samples.Wrong() {
		for _, n := range []int{0, 1, 7, 15} {
			for mode := range 4 {
				x := samples.Smalls(mode, 1<<mode, n, int64(15-1<<mode), 16-n)
				for more := 1; n+more <= 16; more++ {
					for _, at := range []int{0, more / 2, more - 1} {
						extra := samples.Small(more)
						extra[at] = bad
						joins(t, x, extra, api.ErrArg)
					}
				}
			}
		}
		// It is told ahead of the errors of tasks that may be.
		joins(t, samples.Set(0, 15, 1, 1, 1), append(samples.Named(1, 1, samples.TooGreat, 1, 1, 1), bad), api.ErrArg)
		joins(t, samples.Set(0, 15, 1, 1, 1), append([]api.Task{bad}, samples.Named(1, 1, samples.TooGreat, 1, 1, 1)...), api.ErrArg)
	}
}

func TestManyDrawnSets(t *testing.T) { // P15.1
	draw := samples.Drawing(15)
	told, joined, modes := map[api.Errno]int{}, map[api.Errno]int{}, map[int]int{}
	for range 20000 {
		x := samples.DrawnSet(draw)
		mode, err := first(x)
		judges(t, x, mode, err)
		extra := samples.DrawnExtra(draw)
		joins(t, x, extra, with(x, extra))
		told[err]++
		modes[mode]++
		if err == api.OK {
			joined[with(x, extra)]++
		}
	}
	for _, e := range []api.Errno{api.OK, api.ErrLoad, api.ErrOver} {
		if told[e] < 500 {
			t.Errorf("just %d sets of error %d: too few", told[e], e)
		}
	}
	for _, e := range []api.Errno{api.OK, api.ErrArg, api.ErrFull, api.ErrLoad, api.ErrOver} {
		if joined[e] < 100 {
			t.Errorf("just %d sets that fit, and with extra tasks are of error %d: too few", joined[e], e)
		}
	}
	for mode := range 4 {
		if modes[mode] < 200 {
			t.Errorf("just %d sets of which mode %d is the first: too few", modes[mode], mode)
		}
	}
}
