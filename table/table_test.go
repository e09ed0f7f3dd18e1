package table

import (
	"math"
	"slices"
	"testing"

	"horarium/api"
	"horarium/samples"
)

// The tables and rows that tests of many layers look at.
var (
	row     = samples.Row
	of      = samples.Table
	rising  = samples.Rising
	drawn   = samples.DrawnTable
	risen   = samples.Risen
	good    = samples.Tables
	wrong   = samples.WrongTables
	altered = samples.Altered
	copied  = samples.Copied
	equal   = samples.Equal
	roomy   = samples.Roomy
	spoil   = samples.Spoil
)

// extremes are ints that are no ID and no mode, at the ends of what there is.
func extremes() []int {
	return []int{math.MinInt, math.MinInt + 1, -1 << 32, -1024, -2, 1025, 1 << 31, 1 << 32, math.MaxInt - 1, math.MaxInt}
}

// isTable tells it as the chapter's words do, part by part.
func isTable(t api.Table) bool {
	if len(t.Rows) > 16 || t.Mode < 0 || t.Mode > 3 {
		return false
	}
	last := -1
	for _, r := range t.Rows {
		t := r.Task
		if t.ID <= last || t.ID > 1023 || t.C < 1 || t.D < t.C || t.T < t.D || t.T > 2147483648 || t.Modes < 1 || t.Modes > 15 {
			return false
		}
		if r.Server && t.D != t.T {
			return false
		}
		last = t.ID
	}
	return true
}

// checks looks at what Check tells.
func checks(t *testing.T, x api.Table, want bool) {
	t.Helper()
	if got := Check(x); got != want {
		t.Errorf("Check(%v): %v, want %v", x, got, want)
	}
}

func TestCheckOfHowManyRows(t *testing.T) { // P14.1
	for n := range 17 {
		checks(t, rising(n), true)
	}
	for _, n := range []int{17, 18, 32, 100} {
		checks(t, rising(n), false)
	}
	checks(t, api.Table{}, true)
	checks(t, api.Table{Rows: []api.Row{}}, true)
}

func TestCheckOfAMode(t *testing.T) { // P14.1
	for _, n := range []int{0, 1, 16} {
		for mode, want := range map[int]bool{-1: false, 0: true, 1: true, 2: true, 3: true, 4: false, 5: false, 15: false} {
			x := rising(n)
			x.Mode = mode
			checks(t, x, want)
		}
		for _, mode := range extremes() {
			x := rising(n)
			x.Mode = mode
			checks(t, x, false)
		}
	}
}

func TestCheckOfIDs(t *testing.T) { // P14.1
	for n := 2; n <= 16; n++ {
		for at := 1; at < n; at++ {
			ahead := rising(n).Rows[at-1].Task.ID
			for id, want := range map[int]bool{ahead + 1: true, ahead: false, ahead - 1: false, 0: false, -1: false} {
				checks(t, altered(rising(n), at, func(r *api.Row) { r.Task.ID = id }), want)
			}
		}
	}
	checks(t, of(0, 0, 1023), true)
	checks(t, of(0, 1023, 0), false)
	checks(t, of(0, 7, 7), false)
	checks(t, of(0, 1, 2, 3), true)
	checks(t, of(0, 3, 2, 1), false)
	checks(t, of(0, 1, 3, 2), false)
	checks(t, of(0, 1, 2, 1), false)
}

func TestCheckOfATasksFields(t *testing.T) { // P14.1
	cases := []struct {
		change func(t *api.Task)
		want   bool
	}{
		{func(t *api.Task) {}, true},
		{func(t *api.Task) { t.C = 0 }, false},
		{func(t *api.Task) { t.C = -1 }, false},
		{func(t *api.Task) { t.C = 1 }, true},
		{func(t *api.Task) { t.C = t.D }, true},
		{func(t *api.Task) { t.C = t.D + 1 }, false},
		{func(t *api.Task) { t.D = t.C }, true},
		{func(t *api.Task) { t.D = t.C - 1 }, false},
		{func(t *api.Task) { t.D = t.T }, true},
		{func(t *api.Task) { t.D = t.T + 1 }, false},
		{func(t *api.Task) { t.T = t.D }, true},
		{func(t *api.Task) { t.T = t.D - 1 }, false},
		{func(t *api.Task) { t.T = 1 << 31 }, true},
		{func(t *api.Task) { t.T = 1<<31 + 1 }, false},
		{func(t *api.Task) { t.Modes = 0 }, false},
		{func(t *api.Task) { t.Modes = -1 }, false},
		{func(t *api.Task) { t.Modes = 1 }, true},
		{func(t *api.Task) { t.Modes = 15 }, true},
		{func(t *api.Task) { t.Modes = 16 }, false},
	}
	for _, n := range []int{1, 2, 16} {
		for at := range n {
			for i, c := range cases {
				x := altered(rising(n), at, func(r *api.Row) {
					r.Task, r.Server = api.Task{ID: r.Task.ID, C: 3, D: 6, T: 9, Modes: 5}, false
					c.change(&r.Task)
				})
				if got := Check(x); got != c.want {
					t.Errorf("case %d at %d of %d: Check: %v, want %v", i, at, n, got, c.want)
				}
			}
		}
	}
	for id, want := range map[int]bool{-1: false, 0: true, 1: true, 1022: true, 1023: true, 1024: false, math.MinInt: false, math.MaxInt: false} {
		checks(t, altered(of(0, 5), 0, func(r *api.Row) { r.Task.ID = id }), want)
	}
	checks(t, altered(of(0, 4, 5), 1, func(r *api.Row) { r.Task.ID = 1024 }), false)
	checks(t, altered(of(0, 4, 5), 0, func(r *api.Row) { r.Task.ID = -1 }), false)
}

func TestCheckOfAServer(t *testing.T) { // P14.1
	for _, n := range []int{1, 2, 16} {
		for at := range n {
			for d := int64(1); d <= 9; d++ {
				for _, server := range []bool{false, true} {
					x := altered(rising(n), at, func(r *api.Row) {
						r.Task, r.Server = api.Task{ID: r.Task.ID, C: 1, D: d, T: 9, Modes: 1}, server
					})
					checks(t, x, !server || d == 9)
				}
			}
		}
	}
}

func TestCheckOfManyTables(t *testing.T) { // P14.1
	for _, x := range good() {
		checks(t, x, true)
		if !isTable(x) {
			t.Errorf("%v: is none by the words", x)
		}
	}
	for _, x := range wrong() {
		checks(t, x, false)
	}
	draw := samples.Drawing(3)
	numbers := []int64{-1, 0, 1, 2, 3, 9, 15, 16, 300, 1023, 1024, 1 << 31, 1<<31 + 1}
	told := map[bool]int{}
	for range 50000 {
		x := drawn(draw, 1+int(draw(5)), 20)
		r := &x.Rows[draw(int64(len(x.Rows)))]
		n := numbers[draw(int64(len(numbers)))]
		switch draw(8) {
		case 0:
			x.Mode = int(n)
		case 1:
			r.Server = !r.Server
		case 2:
			r.Task.ID = int(n)
		case 3:
			r.Task.C = n
		case 4:
			r.Task.D = n
		case 5:
			r.Task.T = n
		case 6:
			r.Task.Modes = int(n)
		}
		checks(t, x, isTable(x))
		told[isTable(x)]++
	}
	if told[true] < 5000 || told[false] < 5000 {
		t.Errorf("%v: too few of one kind", told)
	}
}

func TestFindOfIDs(t *testing.T) { // P14.2
	for _, x := range good() {
		rows := map[int]api.Row{}
		for _, r := range x.Rows {
			rows[r.Task.ID] = r
		}
		for id := -1; id <= 1024; id++ {
			want, is := rows[id]
			if got, there := Find(x, id); got != want || there != is {
				t.Errorf("Find(%v, %d): %v, %v, want %v, %v", x, id, got, there, want, is)
			}
		}
		for _, id := range extremes() {
			if got, there := Find(x, id); got != (api.Row{}) || there {
				t.Errorf("Find(%v, %d): %v, %v, want nothing", x, id, got, there)
			}
		}
	}
}

func TestTasksAreAll(t *testing.T) { // P14.2
	for _, x := range good() {
		var want []api.Task
		for _, r := range x.Rows {
			want = append(want, r.Task)
		}
		if got := Tasks(x); !slices.Equal(got, want) {
			t.Errorf("Tasks(%v): %v, want %v", x, got, want)
		}
	}
}

func TestInOfEachMode(t *testing.T) { // P14.2
	bits := map[int]int{0: 1, 1: 2, 2: 4, 3: 8}
	x := rising(15)
	for i := range x.Rows {
		x.Rows[i].Task.Modes = 1 + (i*4+3)%15
	}
	for _, x := range append(good(), x) {
		for _, mode := range append(extremes(), -1, 0, 1, 2, 3, 4, 5, 63, 64) {
			var want []api.Task
			for _, r := range x.Rows {
				if r.Task.Modes&bits[mode] != 0 {
					want = append(want, r.Task)
				}
			}
			if got := In(x, mode); !slices.Equal(got, want) {
				t.Errorf("In(%v, %d): %v, want %v", x, mode, got, want)
			}
		}
	}
	for mode, want := range map[int]int{-1: 0, 0: 8, 1: 8, 2: 8, 3: 8, 4: 0} {
		if got := len(In(x, mode)); got != want {
			t.Errorf("In of mode %d: %d tasks, want %d", mode, got, want)
		}
	}
}

func TestInOfTheSetsOwnModeIsNoOther(t *testing.T) { // P14.2
	// Which mode the set has changes nothing of what is in one.
	x := of(0, 0, 1, 2, 3, 4, 5, 6, 7, 8, 9, 10, 11, 12, 13, 14)
	for mode := range 4 {
		want := In(x, mode)
		for other := range 4 {
			turned := copied(x)
			turned.Mode = other
			if got := In(turned, mode); !slices.Equal(got, want) || len(got) != 8 {
				t.Errorf("In of mode %d, where the set's is %d: %v, want %v", mode, other, got, want)
			}
		}
	}
}

// parts are changes of a row, each of one part of it alone.
func parts() []func(r *api.Row) {
	return []func(r *api.Row){
		func(r *api.Row) { r.Task.ID++ },
		func(r *api.Row) { r.Task.C++ },
		func(r *api.Row) { r.Task.D++ },
		func(r *api.Row) { r.Task.T++ },
		func(r *api.Row) { r.Task.Modes++ },
		func(r *api.Row) { r.Server = !r.Server },
	}
}

// sames looks at what Same tells of a and b, in either order.
func sames(t *testing.T, a, b api.Table, want bool) {
	t.Helper()
	if Same(a, b) != want || Same(b, a) != want {
		t.Errorf("Same(%v, %v): %v, the other way %v, want %v", a, b, Same(a, b), Same(b, a), want)
	}
}

func TestSameOfEachPart(t *testing.T) { // P14.2
	for _, x := range append(good(), wrong()...) {
		sames(t, x, x, true)
		sames(t, x, copied(x), true)
		other := copied(x)
		other.Mode++
		sames(t, x, other, false)
		for at := range x.Rows {
			for _, change := range parts() {
				sames(t, x, altered(x, at, change), false)
			}
		}
	}
}

func TestSameOfOtherNumbersOfRows(t *testing.T) { // P14.2
	for n := range 20 {
		for m := range 20 {
			a, b := rising(n), rising(m)
			a.Mode, b.Mode = 1, 1
			sames(t, a, b, n == m)
		}
	}
	sames(t, api.Table{}, api.Table{Rows: []api.Row{}}, true)
	sames(t, api.Table{}, api.Table{Rows: []api.Row{{}}}, false)
	sames(t, api.Table{Mode: -7}, api.Table{Mode: -7}, true)
	sames(t, api.Table{Mode: -7}, api.Table{Mode: 7}, false)
	sames(t, of(0, 1, 2), of(0, 2, 1), false)
	sames(t, of(0, 2, 1), of(0, 2, 1), true)
}

func TestWhatIsToldOfTasksIsTheCallersOwn(t *testing.T) { // R3, P14.2
	for _, x := range good() {
		calls := []func() []api.Task{func() []api.Task { return Tasks(x) }, func() []api.Task { return In(x, 0) }}
		for i, call := range calls {
			kept, told, again := copied(x), call(), call()
			want := slices.Clone(again)
			told = told[:cap(told)]
			for j := range told {
				told[j] = api.Task{ID: -1}
			}
			if !equal(x, kept) || !slices.Equal(again, want) || !slices.Equal(call(), want) {
				t.Errorf("call %d of %v: what is told is not the caller's own", i, kept)
			}
		}
	}
}

func TestAllCallsAtAllArguments(t *testing.T) { // P1, P14.1, P14.2, P14.3, R4
	tables := append(wrong(), rising(5000), api.Table{Rows: make([]api.Row, 3), Mode: -9})
	numbers := append(extremes(), -1, 0, 1, 2, 3, 4, 5, 10, 64, 1023, 1024)
	for _, x := range tables {
		kept := copied(x)
		for _, n := range numbers {
			r, there := Find(x, n)
			again, is := Find(x, n)
			if r != again || there != is || !there && r != (api.Row{}) {
				t.Errorf("Find(%v, %d): %v, %v, and then %v, %v", x, n, r, there, again, is)
			}
			if l := In(x, n); !slices.Equal(l, In(x, n)) || len(l) > 0 && (n < 0 || n > 3) {
				t.Errorf("In(%v, %d): %v, and then %v", x, n, l, In(x, n))
			}
		}
		if l := Tasks(x); !slices.Equal(l, Tasks(x)) {
			t.Errorf("Tasks(%v): %v, and then %v", x, l, Tasks(x))
		}
		checks(t, x, false)
		sames(t, x, of(0, 5, 7), false)
		refuses(t, x)
		applies(t, x, admits(row(5)))
		replays(t, x, []string{written(t, admits(row(5)))})
		if !equal(x, kept) {
			t.Errorf("%v was changed: it was %v", x, kept)
		}
	}
}
