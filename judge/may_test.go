package judge

import (
	"slices"
	"testing"

	"horarium/api"
	"horarium/samples"
	"horarium/table"
)

// may is what May tells, as the chapter's words tell it.
func may(x api.Table, o api.Op, extra []api.Task) (api.Table, api.Errno) {
	next, err := table.Apply(x, o)
	if err == api.OK {
		err = with(next, extra)
	}
	if err != api.OK {
		return api.Table{}, err
	}
	return next, api.OK
}

// becomes looks at what May tells, that it is the caller's own, and that x and extra stay as they are.
func becomes(t *testing.T, x api.Table, o api.Op, extra []api.Task) (api.Table, api.Errno) {
	t.Helper()
	want, err := may(x, o, extra)
	given, all := samples.Roomy(x)
	more, rest := samples.Amid(extra)
	kept, left := slices.Clone(all), slices.Clone(rest)
	untouched := func() bool { return slices.Equal(all, kept) && slices.Equal(rest, left) }
	got, e := May(given, o, more)
	if !samples.Equal(got, want) || e != err {
		t.Errorf("May(%v, %+v, %s): %v, error %d, want %v, %d", x, o, brief(extra), got, e, want, err)
	}
	again, _ := May(given, o, more)
	if !untouched() {
		t.Errorf("May(%v, %+v, %s): what was given is %v, %s", x, o, brief(extra), all, brief(rest))
	}
	samples.Spoil(got.Rows)
	if !untouched() || !samples.Equal(again, want) {
		t.Errorf("May(%v, %+v, %s): what was told shares rows with what was given, or was told", x, o, brief(extra))
	}
	samples.Spoil(all)
	clear(rest)
	if !samples.Equal(again, want) {
		t.Errorf("May(%v, %+v, %s): what was told hangs on what was given", x, o, brief(extra))
	}
	return want, err
}

// refuses looks at an op that may not be, and at why.
func refuses(t *testing.T, x api.Table, o api.Op, extra []api.Task, want api.Errno) {
	t.Helper()
	if got, err := May(x, o, extra); err != want || len(got.Rows) != 0 || got.Mode != 0 {
		t.Errorf("May(%v, %+v, %s): %v, error %d, want nothing, %d", x, o, brief(extra), got, err, want)
	}
	if _, err := becomes(t, x, o, extra); err != want {
		t.Errorf("%v, %+v, %s: error %d by the words, want %d", x, o, brief(extra), err, want)
	}
}

// lets looks at an op that may be: what it makes is just what Apply tells, and fits.
func lets(t *testing.T, x api.Table, o api.Op, extra []api.Task) api.Table {
	t.Helper()
	want, applied := table.Apply(x, o)
	got, err := May(x, o, extra)
	if applied != api.OK || err != api.OK || !samples.Equal(got, want) {
		t.Errorf("May(%v, %+v, %s): %v, error %d, want %v, of error %d", x, o, brief(extra), got, err, want, applied)
	}
	if fit := Fits(got); fit != api.OK {
		t.Errorf("May(%v, %+v, %s): %v, whose Fits is %d", x, o, brief(extra), got, fit)
	}
	if _, err := becomes(t, x, o, extra); err != api.OK {
		t.Errorf("%v, %+v, %s: error %d by the words, want 0", x, o, brief(extra), err)
	}
	return want
}

func TestTheChaptersExample(t *testing.T) { // P15.2
	x := lets(t, api.Table{}, samples.Admits(api.Task{ID: 1, C: 1, D: 2, T: 2, Modes: 15}), nil)
	for modes := 1; modes < 16; modes++ {
		refuses(t, x, samples.Admits(api.Task{ID: 2, C: 2, D: 3, T: 3, Modes: modes}), nil, api.ErrLoad)
		lets(t, x, samples.Admits(api.Task{ID: 2, C: 1, D: 3, T: 3, Modes: modes}), nil)
	}
}

func TestATaskThatLeavesHoldsItsShare(t *testing.T) { // P15.2, P15.3
	x := samples.Set(0, 15, 1, 2, 2)
	bare := lets(t, x, samples.Removes(10), nil)
	refuses(t, bare, samples.AdmitsSeven(15, 2, 3, 3), Gone(x, bare), api.ErrLoad)
	lets(t, bare, samples.AdmitsSeven(15, 1, 3, 3), Gone(x, bare))
	lets(t, bare, samples.AdmitsSeven(15, 2, 3, 3), nil)

	less := lets(t, samples.Set(0, 15, 3, 4, 4), samples.Resizes(10, 1), nil)
	gone := Gone(samples.Set(0, 15, 3, 4, 4), less)
	refuses(t, less, samples.AdmitsSeven(15, 2, 4, 4), gone, api.ErrLoad)
	lets(t, less, samples.AdmitsSeven(15, 1, 4, 4), gone)
	lets(t, less, samples.AdmitsSeven(15, 3, 4, 4), nil)
}

func TestEachErrorOfApplyAtEachKind(t *testing.T) { // P15.2, R2
	for _, c := range samples.Refusals() {
		// It is told ahead of all that With would say.
		for _, extra := range samples.Extras() {
			refuses(t, c.Set, c.Op, extra, c.Err)
		}
		broken := samples.Altered(c.Set, len(c.Set.Rows)-1, func(r *api.Row) { r.Task.T = samples.TooGreat })
		judges(t, broken, 1, api.ErrOver)
		refuses(t, broken, c.Op, nil, c.Err)
	}
}

func TestOpsOfTablesThatMayNotBe(t *testing.T) { // P15.2, P1
	for _, x := range append(samples.WrongTables(), samples.Rising(5000), samples.Set(4, 15, 1, 4, 4), samples.Set(-1)) {
		for _, o := range append(samples.OneOfEach(), api.Op{}, samples.Removes(7), samples.Resizes(10, 1<<31)) {
			for _, extra := range [][]api.Task{nil, samples.Small(1), samples.Small(17), samples.Wrong()} {
				refuses(t, x, o, extra, api.ErrArg)
			}
		}
	}
}

func TestEachErrorOfFitsAtAnAdmit(t *testing.T) { // P15.2
	x := samples.Set(1, 1, 2, 4, 4, 6, 1, 2, 2)
	lets(t, x, samples.AdmitsSeven(15, 1, 2, 2), nil)
	lets(t, x, samples.AdmitsSeven(8, 2, 2, 2), nil)
	refuses(t, x, samples.AdmitsSeven(15, 3, 4, 4), nil, api.ErrLoad)
	refuses(t, x, samples.AdmitsSeven(1, 3, 4, 4), nil, api.ErrLoad) // in a mode that is not the set's
	refuses(t, x, samples.AdmitsSeven(4, 2, 2, 3), nil, api.ErrLoad)
	refuses(t, x, samples.AdmitsSeven(8, 1, 1, samples.TooGreat), nil, api.ErrOver)
	refuses(t, x, samples.AdmitsSeven(15, 1, 1, 1<<31), nil, api.ErrOver)
	refuses(t, samples.Set(0, 8, 1, 1024, 1024), samples.AdmitsSeven(12, 1, 1025, 1025), nil, api.ErrOver)
	lets(t, samples.Set(0, 8, 1, 1024, 1024), samples.AdmitsSeven(7, 1, 1025, 1025), nil)
	refuses(t, x, samples.Serves(api.Task{ID: 7, C: 3, D: 4, T: 4, Modes: 2}), nil, api.ErrLoad)
	lets(t, x, samples.Serves(api.Task{ID: 7, C: 2, D: 4, T: 4, Modes: 2}), nil)
}

func TestEachErrorOfFitsAtAnyKind(t *testing.T) { // P15.2
	// The op touches nothing of what does not fit: it is in mode 2 alone, and of IDs 20 and 30.
	for _, m := range append(samples.TooMuch(), samples.TooLong()...) {
		x := samples.Set(1, append([]int64{11, 2, 128, 128}, m.In(4)...)...)
		for _, o := range append(samples.OneOfEach(), samples.TurnsTo(2)) {
			for _, extra := range samples.Extras() {
				refuses(t, x, o, extra, m.Err)
			}
		}
		// What is left of it fits, and so the set may become that.
		for _, id := range []int{20, 30} {
			next, _ := table.Apply(x, samples.Removes(id))
			if Fits(next) == api.OK {
				lets(t, x, samples.Removes(id), nil)
				refuses(t, x, samples.Removes(id), samples.Named(1, 1, 1, 1, 1, 1), api.ErrLoad)
			} else {
				refuses(t, x, samples.Removes(id), nil, m.Err)
			}
		}
	}
	// As much work as there is time for is left, and one more.
	x := samples.Set(0, 15, 3, 4, 4, 15, 4, 8, 8)
	lets(t, x, samples.Resizes(10, 2), nil)
	refuses(t, x, samples.Resizes(10, 3), nil, api.ErrLoad)
	lets(t, x, samples.Resizes(20, 2), nil)
	refuses(t, x, samples.Resizes(20, 3), nil, api.ErrLoad)
	refuses(t, samples.Set(0, 15, 1, 2, 2, 8, 1, 2, 2), samples.Resizes(10, 2), nil, api.ErrLoad)
	refuses(t, samples.Set(0, 15, 1, 2, samples.TooGreat, 8, 1, 2, 2), samples.Resizes(20, 2), nil, api.ErrOver)
	lets(t, samples.Set(0, 15, 1, 2, samples.TooGreat, 8, 1, 2, 2), samples.Removes(10), nil)
	refuses(t, samples.Set(0, 15, 1, 2, samples.TooGreat, 8, 1, 2, 2), samples.Removes(20), nil, api.ErrOver)
}

func TestEachErrorOfExtraTasksAtEachKind(t *testing.T) { // P15.2
	// The set has tasks of each mode, and may become another one by each op.
	x := samples.Set(0, 15, 2, 128, 128, 1, 1, 128, 128, 8, 1, 128, 128)
	for _, o := range samples.OneOfEach() {
		lets(t, x, o, nil)
		lets(t, x, o, []api.Task{})
		lets(t, x, o, samples.Named(1, 2, 2))
		lets(t, x, o, samples.Same(12, samples.Named(1, 128, 128)[0]))
		refuses(t, x, o, samples.Named(1, 1, 1), api.ErrLoad)
		refuses(t, x, o, samples.Named(1, 1, 64, 1, 1, 64), api.ErrLoad)
		refuses(t, x, o, samples.Named(1, 1, samples.TooGreat), api.ErrOver)
		refuses(t, x, o, samples.Named(1, 1, 1, 1, 1, 1<<31), api.ErrOver)
		refuses(t, x, o, samples.Small(17), api.ErrFull)
		refuses(t, x, o, samples.Same(17, api.Task{}), api.ErrFull)
		for _, bad := range samples.Wrong() {
			refuses(t, x, o, []api.Task{bad}, api.ErrArg)
			refuses(t, x, o, append(samples.Small(3), bad), api.ErrArg)
			refuses(t, x, o, append(samples.Named(1, 1, 1), bad), api.ErrArg)
		}
	}
}

func TestExtraTasksStandBesideTheNewSet(t *testing.T) { // P15.2
	// What is asked is the set behind the op, not the one ahead of it.
	x := samples.Set(0, 15, 2, 4, 4)
	lets(t, x, samples.AdmitsSeven(1, 1, 4, 4), samples.Named(1, 4, 4))
	refuses(t, x, samples.AdmitsSeven(1, 1, 4, 4), samples.Named(2, 4, 4), api.ErrLoad)
	lets(t, x, samples.AdmitsSeven(14, 1, 4, 4), samples.Named(2, 4, 4))
	lets(t, x, samples.Removes(10), samples.Named(4, 4, 4))
	lets(t, x, samples.Resizes(10, 1), samples.Named(3, 4, 4))
	refuses(t, x, samples.Resizes(10, 3), samples.Named(2, 4, 4), api.ErrLoad)
	refuses(t, x, samples.Resizes(10, 1), samples.Named(4, 4, 4), api.ErrLoad)

	// 16 with the new one, and 17; 16 without the old one.
	many := samples.Smalls(0, 1, 8, 2, 4)
	lets(t, many, samples.AdmitsSeven(1, 1, 128, 128), samples.Small(7))
	refuses(t, many, samples.AdmitsSeven(1, 1, 128, 128), samples.Small(8), api.ErrFull)
	lets(t, many, samples.AdmitsSeven(2, 1, 128, 128), samples.Small(8))
	refuses(t, many, samples.AdmitsSeven(2, 1, 128, 128), samples.Small(9), api.ErrFull)
	lets(t, many, samples.Removes(10), samples.Small(9))
	refuses(t, many, samples.Removes(10), samples.Small(10), api.ErrFull)
	lets(t, many, samples.Removes(120), samples.Small(8))
	refuses(t, many, samples.Removes(120), samples.Small(9), api.ErrFull)
	lets(t, many, samples.Resizes(10, 2), samples.Small(8))
	refuses(t, many, samples.Resizes(10, 2), samples.Small(9), api.ErrFull)
}

func TestAnotherModeWithExtraTasks(t *testing.T) { // P15.2
	// 1 of 4 in mode 0, 2 of 4 in mode 1, and so on, so that what comes with it fits in some of them alone.
	x := samples.Set(0, 1, 1, 4, 4, 2, 2, 4, 4, 4, 3, 4, 4, 8, 4, 4, 4)
	for from := range 4 {
		for to := range 4 {
			for c := int64(1); c <= 4; c++ {
				if extra := samples.Named(c, 4, 4); int64(to)+1+c <= 4 {
					lets(t, in(x, from), samples.TurnsTo(to), extra)
				} else {
					refuses(t, in(x, from), samples.TurnsTo(to), extra, api.ErrLoad)
				}
			}
			lets(t, in(x, from), samples.TurnsTo(to), nil)
		}
	}
	many := samples.Smalls(0, 1, 2, 2, 14)
	lets(t, many, samples.TurnsTo(0), samples.Small(14))
	refuses(t, many, samples.TurnsTo(1), samples.Small(14), api.ErrFull)
	lets(t, many, samples.TurnsTo(1), samples.Small(2))
	refuses(t, in(many, 1), samples.TurnsTo(1), samples.Small(3), api.ErrFull)
	lets(t, in(many, 1), samples.TurnsTo(0), samples.Small(3))
	long := samples.Set(0, 1, 1, 1024, 1024, 2, 1, 1023, 1023)
	refuses(t, long, samples.TurnsTo(0), samples.Named(1, 1025, 1025), api.ErrOver)
	lets(t, long, samples.TurnsTo(1), samples.Named(1, 1025, 1025))
	refuses(t, in(long, 1), samples.TurnsTo(0), samples.Named(1, 1025, 1025), api.ErrOver)
}

func TestManyDrawnOps(t *testing.T) { // P15.2
	draw := samples.Drawing(16)
	told := map[api.Errno]int{}
	for range 20000 {
		x, o, extra := samples.DrawnSet(draw), samples.DrawnOp(draw), []api.Task(nil)
		if draw(2) == 0 {
			extra = samples.DrawnExtra(draw)
		}
		_, err := becomes(t, x, o, extra)
		told[err]++
	}
	for _, e := range []api.Errno{api.OK, api.ErrArg, api.ErrNone, api.ErrThere, api.ErrFull, api.ErrOver, api.ErrLoad} {
		if told[e] < 200 {
			t.Errorf("just %d ops of error %d: too few", told[e], e)
		}
	}
}

// followed looks at a set that was changed by nothing but what may: that it fits, and without any one of its tasks, and with less C of any one.
func followed(t *testing.T, x api.Table) {
	t.Helper()
	judges(t, x, -1, api.OK)
	hasTime(t, x)
	for at, r := range x.Rows {
		less := samples.Copied(x)
		less.Rows = slices.Delete(less.Rows, at, at+1)
		judges(t, less, -1, api.OK)
		lets(t, x, samples.Removes(r.Task.ID), nil)
		for _, c := range []int64{1, r.Task.C / 2, r.Task.C - 1} {
			if 1 <= c && c < r.Task.C {
				judges(t, samples.Altered(x, at, func(r *api.Row) { r.Task.C = c }), -1, api.OK)
				lets(t, x, samples.Resizes(r.Task.ID, c), nil)
			}
		}
	}
}

// hasTime looks at the work of each mode of x, time by time.
func hasTime(t *testing.T, x api.Table) {
	t.Helper()
	for mode := range 4 {
		l := of(x, mode)
		period := samples.Common(l)
		if period == 0 {
			t.Errorf("%v: tasks of mode %d have no common period up to 2^20", x, mode)
		}
		// All work of a period is due by its end, so that what holds up to there holds at all times.
		for at, work := range samples.Dues(l, period) {
			if work > int64(at) {
				t.Errorf("%v: tasks of mode %d have work of %d by %d", x, mode, work, at)
				break
			}
		}
	}
}

func TestWhatWasChangedByWhatMayFits(t *testing.T) { // P15.4
	draw := samples.Drawing(17)
	done, refused, most := 0, 0, 0
	for range 100 {
		x := api.Table{Mode: int(draw(4))}
		for range 60 {
			o, extra := samples.DrawnOp(draw), []api.Task(nil)
			if draw(4) == 0 {
				extra = samples.DrawnExtra(draw)
			}
			next, err := May(x, o, extra)
			if err != api.OK {
				refused++
				continue
			}
			x = next
			followed(t, x)
			done++
			most = max(most, len(x.Rows))
		}
	}
	if done < 1000 || refused < 1000 || most < 12 {
		t.Errorf("%d ops were done, %d refused, and a set had %d rows: too few", done, refused, most)
	}
}
