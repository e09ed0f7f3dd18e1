package edf

import (
	"cmp"
	"fmt"
	"math"
	"slices"
	"testing"

	"horarium/api"
	"horarium/samples"
)

// lastDue is the greatest deadline that a job may have.
const lastDue = 2 * samples.Last

// ids are numbers that a job may have: of any kind, the least and the greatest ones among them.
func ids() []int {
	return []int{0, 1, 2, 3, 9, 15, 16, 1023, 1024, 1 << 31, 1 << 32, 1<<32 + 1, math.MaxInt - 1, math.MaxInt, -1, -2, -1023, -1 << 31, -1 << 32, math.MinInt + 1, math.MinInt}
}

// noDeadlines are numbers that are no deadline of what is released then.
func noDeadlines(release int64) []int64 {
	return []int64{math.MinInt64, math.MinInt64 + 1, -lastDue, -1, 0, release / 2, release - 1, release, lastDue + 1, lastDue + 2, math.MaxInt64 - 1, math.MaxInt64}
}

// wrong are jobs of that ID that may not be, each for another reason, or for more than one.
func wrong(id int) []api.Job {
	var l []api.Job
	for _, left := range samples.NoSpans() {
		l = append(l, api.Job{ID: id, Release: 3, Deadline: 9, Left: left})
	}
	for _, release := range samples.NoTimes() {
		l = append(l, api.Job{ID: id, Release: release, Deadline: 9, Left: 1}, api.Job{ID: id, Release: release, Deadline: lastDue, Left: 1}, api.Job{ID: id, Release: release, Deadline: release + 1, Left: 1})
	}
	for _, release := range []int64{0, 3, samples.Last} {
		for _, deadline := range noDeadlines(release) {
			l = append(l, api.Job{ID: id, Release: release, Deadline: deadline, Left: 1})
		}
	}
	return append(l, api.Job{ID: id}, api.Job{ID: id, Release: -1, Deadline: -1, Left: -1})
}

// due is a job of these numbers, that is released at 0.
func due(id int, deadline, left int64) api.Job {
	return api.Job{ID: id, Deadline: deadline, Left: left}
}

// ordered are these jobs in a list of their own, those ahead first.
func ordered(l []api.Job) []api.Job {
	return slices.SortedFunc(slices.Values(l), func(a, b api.Job) int {
		return cmp.Or(cmp.Compare(a.Deadline, b.Deadline), cmp.Compare(a.ID, b.ID))
	})
}

// sum is how much is left of all.
func sum(l []api.Job) int64 {
	left := int64(0)
	for _, j := range l {
		left += j.Left
	}
	return left
}

// is looks at what an Add tells.
func is(t *testing.T, x *Exec, j api.Job, want api.Errno) {
	t.Helper()
	if err := x.Add(j); err != want {
		t.Fatalf("Add(%v): %d, want %d", j, int(err), int(want))
	}
}

// filled is an executive with these jobs, added as they stand.
func filled(t *testing.T, l ...api.Job) *Exec {
	t.Helper()
	x := New()
	for _, j := range l {
		is(t, x, j, api.OK)
	}
	return x
}

// runs looks at what a Run tells.
func runs(t *testing.T, what string, x *Exec, id int, done bool) {
	t.Helper()
	if ran := x.Run(); ran != (api.Ran{ID: id, Done: done}) {
		t.Fatalf("%s: Run: %v, want %d, %t", what, ran, id, done)
	}
}

// own looks at jobs that were told, and changes them, and those for which there is room behind them: they are the caller's.
func own(t *testing.T, what string, told, want []api.Job) {
	t.Helper()
	if !slices.Equal(told, want) {
		t.Fatalf("%s: %v, want %v", what, told, want)
	}
	told = told[:cap(told)]
	for i := range told {
		told[i] = api.Job{ID: 77 - i, Release: -3, Deadline: int64(5 - i), Left: 1000}
	}
}

// nows are times near to all deadlines, and some others.
func nows(l []api.Job) []int64 {
	times := []int64{math.MinInt64, -1, 0, 1, lastDue, math.MaxInt64}
	for _, j := range l {
		times = append(times, j.Deadline-1, j.Deadline, j.Deadline+1)
	}
	return times
}

// has looks at all that an executive tells without being changed, twice: that it has just these jobs.
func has(t *testing.T, what string, x *Exec, want ...api.Job) {
	t.Helper()
	want = ordered(want)
	for range 2 {
		own(t, what+": Pending", x.Pending(), want)
		if idle := x.Idle(); idle != (len(want) == 0) {
			t.Fatalf("%s: Idle: %t of %v", what, idle, want)
		}
		if left := x.Left(); left != sum(want) {
			t.Fatalf("%s: Left: %d, want %d", what, left, sum(want))
		}
		for _, now := range nows(want) {
			late := slices.DeleteFunc(slices.Clone(want), func(j api.Job) bool { return j.Deadline > now })
			own(t, fmt.Sprint(what, ": Late of ", now), x.Late(now), late)
		}
		there := map[int]bool{}
		for _, j := range want {
			there[j.ID] = true
		}
		for _, id := range ids() {
			there[id] = there[id]
		}
		for id, must := range there {
			if ok := x.Has(id); ok != must {
				t.Fatalf("%s: Has(%d): %t of %v", what, id, ok, want)
			}
		}
	}
}

// drains runs all jobs, which must be these, and looks at what is there behind each Run.
func drains(t *testing.T, what string, x *Exec, want ...api.Job) {
	t.Helper()
	has(t, what, x, want...)
	want = ordered(want)
	for len(want) > 0 {
		want[0].Left--
		first := want[0]
		if first.Left == 0 {
			want = want[1:]
		}
		runs(t, what, x, first.ID, first.Left == 0)
		has(t, what+": behind Run", x, want...)
	}
	for range 2 {
		runs(t, what+": behind all", x, -1, false)
	}
	has(t, what+": behind all", x)
}

// some are jobs that go ahead of one another by their deadlines, and by their IDs, in no order.
func some() []api.Job {
	return []api.Job{
		{ID: 7, Release: 2, Deadline: 30, Left: 2},
		{ID: -4, Release: 5, Deadline: 30, Left: 1},
		{ID: 3, Release: 0, Deadline: 40, Left: 3},
		{ID: 16, Release: 9, Deadline: 10, Left: 2},
		{ID: 2, Release: 1, Deadline: 30, Left: 1},
	}
}

func TestNewHasNoJobs(t *testing.T) { // P18.1, P18.2
	x := New()
	if x == nil {
		t.Fatal("New: nil")
	}
	drains(t, "New", x)
	own(t, "New: Drop", x.Drop(), nil)
	drains(t, "New, behind Drop", x)
}

func TestLeftsThatMayBe(t *testing.T) { // P18.1
	for _, left := range []int64{1, 2, 3, 100, 1 << 20, api.MaxT - 1, api.MaxT} {
		j := api.Job{ID: 5, Release: 3, Deadline: 9, Left: left}
		x := filled(t, j)
		has(t, fmt.Sprint("Left ", left), x, j)
		runs(t, fmt.Sprint("Left ", left), x, 5, left == 1)
		if left > 1 {
			j.Left--
			has(t, fmt.Sprint("Left ", left, ", behind Run"), x, j)
		}
	}
}

func TestReleasesThatMayBe(t *testing.T) { // P18.1
	for _, release := range samples.Times() {
		for _, deadline := range []int64{release + 1, release + 2, release + api.MaxT, samples.Last + 1, lastDue - 1, lastDue} {
			j := api.Job{ID: 5, Release: release, Deadline: deadline, Left: 2}
			drains(t, fmt.Sprint("released at ", release, ", due at ", deadline), filled(t, j), j)
		}
	}
}

func TestDeadlinesThatMayBe(t *testing.T) { // P18.1
	for _, deadline := range []int64{1, 2, 3, 1 << 20, 1<<31 - 1, 1 << 31, 1<<31 + 1, 1 << 32, samples.Last - 1, samples.Last, samples.Last + 1, lastDue - 1, lastDue} {
		for _, release := range []int64{0, deadline / 2, deadline - 1} {
			if release <= samples.Last {
				j := api.Job{ID: 5, Release: release, Deadline: deadline, Left: 2}
				drains(t, fmt.Sprint("released at ", release, ", due at ", deadline), filled(t, j), j)
			}
		}
	}
}

// TestWrongJobs: they are refused, and change nothing, be their ID there or not.
func TestWrongJobs(t *testing.T) { // P18.1, R2
	for _, id := range append(ids(), 7, -4) {
		x, empty := filled(t, some()...), New()
		for _, j := range wrong(id) {
			is(t, empty, j, api.ErrArg)
			is(t, x, j, api.ErrArg)
		}
		has(t, "behind wrong ones", empty)
		has(t, "behind wrong ones", x, some()...)
	}
	for _, j := range wrong(7) {
		x := filled(t, some()...)
		is(t, x, j, api.ErrArg)
		has(t, fmt.Sprint("behind ", j), x, some()...)
		x = New()
		is(t, x, j, api.ErrArg)
		drains(t, fmt.Sprint("behind ", j), x)
	}
}

// TestOfAnIDThatIsThere: it is refused, whatever the other numbers are, and the job that is there stays as it was.
func TestOfAnIDThatIsThere(t *testing.T) { // P18.1
	for _, was := range some() {
		x := filled(t, some()...)
		for _, j := range []api.Job{was, due(was.ID, 1, 1), due(was.ID, lastDue, api.MaxT), {ID: was.ID, Release: samples.Last, Deadline: lastDue, Left: 1}, {ID: was.ID, Release: was.Release, Deadline: was.Deadline, Left: was.Left + 1}} {
			is(t, x, j, api.ErrThere)
			has(t, fmt.Sprint("behind ", j), x, some()...)
		}
		drains(t, fmt.Sprint("behind others of ", was.ID), x, some()...)
	}
}

func TestTheSameJobTwice(t *testing.T) { // P18.1
	for _, id := range ids() {
		j := due(id, 8, 2)
		x := filled(t, j)
		is(t, x, j, api.ErrThere)
		is(t, x, j, api.ErrThere)
		has(t, "the same one twice", x, j)
		runs(t, "the same one twice", x, id, false)
		is(t, x, j, api.ErrThere)
		drains(t, "the same one twice, behind Run", x, due(id, 8, 1))
	}
}

// TestOfAnIDThatWasThere: behind its end, or Drop, it may be there again, as any other job.
func TestOfAnIDThatWasThere(t *testing.T) { // P18.1
	for _, id := range ids() {
		x := filled(t, due(id, 8, 2), due(id^1, 20, 1))
		runs(t, "the first one", x, id, false)
		is(t, x, due(id, 9, 1), api.ErrThere)
		runs(t, "the first one", x, id, true)
		has(t, "it is done", x, due(id^1, 20, 1))
		is(t, x, due(id, 30, 3), api.OK)
		is(t, x, due(id, 30, 3), api.ErrThere)
		has(t, "it is there again", x, due(id^1, 20, 1), due(id, 30, 3))
		x.Drop()
		has(t, "it is dropped", x)
		is(t, x, due(id, 4, 1), api.OK)
		drains(t, "it is there once more", x, due(id, 4, 1))
	}
}

func TestAllIDs(t *testing.T) { // P18.1
	var same, rising, falling []api.Job
	for i, id := range ids() {
		drains(t, "alone", filled(t, due(id, 5, 2)), due(id, 5, 2))
		same = append(same, due(id, 5, int64(1+i%3)))
		rising = append(rising, due(id, int64(i+1), int64(1+i%3)))
		falling = append(falling, due(id, int64(100-i), int64(1+i%3)))
	}
	for _, l := range [][]api.Job{same, rising, falling} {
		x := filled(t, l...)
		for _, j := range l {
			is(t, x, j, api.ErrThere)
		}
		drains(t, "all IDs", x, l...)
	}
}

// orders goes over all orders of these jobs.
func orders(l []api.Job) func(yield func(l []api.Job) bool) {
	return func(yield func(l []api.Job) bool) {
		if len(l) == 0 {
			yield(nil)
			return
		}
		for i := range l {
			for rest := range orders(slices.Delete(slices.Clone(l), i, i+1)) {
				if !yield(append([]api.Job{l[i]}, rest...)) {
					return
				}
			}
		}
	}
}

// TestOrders: in whichever order jobs are added, they run in one.
func TestOrders(t *testing.T) { // P18.1, P18.2
	for _, l := range [][]api.Job{
		some(),
		{due(1, 9, 1), due(2, 8, 1), due(3, 7, 1), due(4, 6, 1), due(5, 5, 1)},
		{due(1, 9, 2), due(2, 9, 1), due(-1, 9, 1), due(-2, 9, 2), due(0, 9, 1)},
		{due(math.MinInt, 9, 1), due(math.MaxInt, 9, 1), due(0, 9, 1), due(math.MaxInt-1, 8, 1), due(math.MinInt+1, 10, 1)},
		{due(5, lastDue, 1), due(4, lastDue-1, 1), due(3, 1, 1), due(6, 1, 1), due(2, lastDue, 1)},
		// What is left, and when it was released, do not tell which one goes ahead.
		{{ID: 1, Release: 8, Deadline: 10, Left: 9}, {ID: 2, Release: 0, Deadline: 10, Left: 1}, {ID: 3, Release: 7, Deadline: 9, Left: 4}, {ID: 0, Release: 0, Deadline: 11, Left: 1}},
	} {
		for l := range orders(l) {
			drains(t, fmt.Sprint("added as ", l), filled(t, l...), l...)
		}
	}
}

// TestRow: what runs, slot by slot, told by words of its own.
func TestRow(t *testing.T) { // P18.1
	x := filled(t, some()...)
	for i, want := range []api.Ran{{ID: 16}, {ID: 16, Done: true}, {ID: -4, Done: true}, {ID: 2, Done: true}, {ID: 7}, {ID: 7, Done: true}, {ID: 3}, {ID: 3}, {ID: 3, Done: true}, {ID: -1}, {ID: -1}} {
		runs(t, fmt.Sprint("slot ", i), x, want.ID, want.Done)
	}
	has(t, "behind all", x)
}

func TestALaterJobGoesAhead(t *testing.T) { // P18.1
	x := filled(t, due(5, 20, 3))
	runs(t, "alone", x, 5, false)
	is(t, x, due(9, 19, 2), api.OK)
	runs(t, "one with an earlier deadline", x, 9, false)
	is(t, x, due(8, 19, 1), api.OK)
	runs(t, "one with a lesser ID", x, 8, true)
	is(t, x, due(10, 19, 1), api.OK)
	is(t, x, due(4, 21, 1), api.OK)
	has(t, "amid all", x, due(5, 20, 2), due(9, 19, 1), due(10, 19, 1), due(4, 21, 1))
	runs(t, "one with a greater ID", x, 9, true)
	runs(t, "it comes behind", x, 10, true)
	is(t, x, due(1, 1, 1), api.OK)
	runs(t, "one whose deadline is the least", x, 1, true)
	runs(t, "the first one again", x, 5, false)
	drains(t, "in the end", x, due(5, 20, 1), due(4, 21, 1))
}

// TestIDMinusOne: a job of it runs as any other one, though its ID is told of none too.
func TestIDMinusOne(t *testing.T) { // P18.1
	x := filled(t, due(-1, 5, 2), due(0, 5, 1))
	runs(t, "of -1", x, -1, false)
	runs(t, "of -1", x, -1, true)
	has(t, "behind it", x, due(0, 5, 1))
	runs(t, "of 0", x, 0, true)
	runs(t, "of none", x, -1, false)
}

func TestWhatIsToldIsTheCallersOwn(t *testing.T) { // P18.2, R3
	x := filled(t, some()...)
	one, other, late, lateToo := x.Pending(), x.Pending(), x.Late(30), x.Late(30)
	one[0], one[4], late[0] = due(1, 1, 1), due(2, 2, 2), due(3, 3, 3)
	if !slices.Equal(other, ordered(some())) || !slices.Equal(lateToo, ordered(some())[:4]) {
		t.Errorf("two that were told share what they have: %v, %v", other, lateToo)
	}
	has(t, "behind a change of what was told", x, some()...)
	x.Run()
	x.Run()
	is(t, x, due(1, 1, 1), api.OK)
	dropped := x.Drop()
	for i := range 5 {
		is(t, x, due(i, int64(i+1), 1), api.OK)
	}
	if !slices.Equal(other, ordered(some())) || !slices.Equal(lateToo, ordered(some())[:4]) {
		t.Errorf("what was told has changed with the executive: %v, %v", other, lateToo)
	}
	own(t, "dropped", dropped, append([]api.Job{due(1, 1, 1)}, ordered(some())[1:]...))
	drains(t, "behind a change of what was dropped", x, due(0, 1, 1), due(1, 2, 1), due(2, 3, 1), due(3, 4, 1), due(4, 5, 1))
}

func TestLate(t *testing.T) { // P18.2
	x := filled(t, some()...)
	l := ordered(some())
	for _, c := range []struct {
		now  int64
		many int
	}{
		{math.MinInt64, 0}, {-1, 0}, {0, 0}, {9, 0}, {10, 1}, {11, 1}, {29, 1}, {30, 4}, {31, 4}, {39, 4}, {40, 5}, {41, 5}, {lastDue, 5}, {lastDue + 1, 5}, {math.MaxInt64, 5},
	} {
		own(t, fmt.Sprint("Late of ", c.now), x.Late(c.now), l[:c.many])
		has(t, fmt.Sprint("behind Late of ", c.now), x, l...)
	}
	runs(t, "behind Late", x, 16, false)
	l[0].Left = 1
	own(t, "Late, with less left", x.Late(10), l[:1])
	runs(t, "behind Late", x, 16, true)
	own(t, "Late, with one done", x.Late(30), l[1:4])
	drains(t, "behind Late", x, l[1:]...)
}

func TestLateOfTheGreatestDeadline(t *testing.T) { // P18.2
	x := filled(t, due(1, lastDue, 1), due(2, 1, 1))
	own(t, "one below the greatest", x.Late(lastDue-1), []api.Job{due(2, 1, 1)})
	own(t, "the greatest", x.Late(lastDue), []api.Job{due(2, 1, 1), due(1, lastDue, 1)})
	own(t, "the least", x.Late(0), nil)
}

func TestDrop(t *testing.T) { // P18.2
	all := some()
	for n := range len(all) + 1 {
		for ran := range 4 {
			x := filled(t, all[:n]...)
			for range ran {
				x.Run()
			}
			want := x.Pending()
			what := fmt.Sprint("Drop of ", want)
			own(t, what, x.Drop(), want)
			has(t, what, x)
			own(t, what+" twice", x.Drop(), nil)
			runs(t, what, x, -1, false)
			for _, j := range want {
				is(t, x, j, api.OK)
			}
			drains(t, what+", and Add", x, want...)
		}
	}
}

func TestTwoExecutives(t *testing.T) { // P18.1, P18.2
	a, b := New(), New()
	is(t, a, due(1, 9, 2), api.OK)
	has(t, "the other", b)
	is(t, b, due(1, 5, 1), api.OK)
	is(t, b, due(2, 6, 4), api.OK)
	has(t, "the one", a, due(1, 9, 2))
	runs(t, "the other", b, 1, true)
	has(t, "the one", a, due(1, 9, 2))
	is(t, a, due(2, 8, 1), api.OK)
	own(t, "the other", b.Drop(), []api.Job{due(2, 6, 4)})
	has(t, "the other", b)
	drains(t, "the one", a, due(1, 9, 2), due(2, 8, 1))
}

// nothing looks at all that an executive without jobs tells.
func nothing(t *testing.T, what string, x *Exec) {
	t.Helper()
	has(t, what, x)
	runs(t, what, x, -1, false)
	own(t, what+": Drop", x.Drop(), nil)
	has(t, what+", behind Run and Drop", x)
}

func TestNilExecutive(t *testing.T) { // the sentence behind the promises
	var x *Exec
	for range 2 {
		for _, id := range ids() {
			is(t, x, due(id, 5, 1), api.ErrArg)
			for _, j := range wrong(id) {
				is(t, x, j, api.ErrArg)
			}
		}
		nothing(t, "a nil executive", x)
	}
}

// TestZeroExecutive: a zero one has no jobs, as a new one, and may be used as one.
func TestZeroExecutive(t *testing.T) { // P1, P18.1
	var x Exec
	nothing(t, "a zero executive", &x)
	for _, j := range wrong(5) {
		is(t, &x, j, api.ErrArg)
	}
	nothing(t, "a zero executive, behind wrong jobs", &x)
	for _, j := range some() {
		is(t, &x, j, api.OK)
		is(t, &x, j, api.ErrThere)
	}
	drains(t, "a zero executive, behind Add", &x, some()...)
}

func TestExample(t *testing.T) { // the chapter's
	x := filled(t, due(1, 9, 2), due(2, 5, 1), due(0, 9, 1))
	var told []int
	for !x.Idle() {
		told = append(told, x.Run().ID)
	}
	if !slices.Equal(told, []int{2, 0, 1, 1}) {
		t.Errorf("runs: %v, want 2, 0, 1, 1", told)
	}
}
