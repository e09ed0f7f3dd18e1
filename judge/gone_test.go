package judge

import (
	"slices"
	"testing"

	"horarium/api"
	"horarium/samples"
	"horarium/table"
)

// goneOf is what Gone tells of tables that may be, as the chapter's words tell it of tasks by their IDs.
func goneOf(a, b api.Table) []api.Task {
	now := map[int]api.Row{}
	for _, r := range b.Rows {
		if slices.Contains(of(b, b.Mode), r.Task) {
			now[r.Task.ID] = r
		}
	}
	var l []api.Task
	for _, r := range a.Rows {
		is, there := now[r.Task.ID]
		other := is.Task.D != r.Task.D || is.Task.T != r.Task.T || is.Server != r.Server
		switch {
		case !slices.Contains(of(a, a.Mode), r.Task):
		case !there, other:
			l = append(l, r.Task)
		case is.Task.C < r.Task.C:
			r.Task.C -= is.Task.C
			l = append(l, r.Task)
		}
	}
	return l
}

// leaves looks at what Gone tells, that it is the caller's own, and that a and b stay as they are.
func leaves(t *testing.T, a, b api.Table, want ...api.Task) {
	t.Helper()
	one, all := samples.Roomy(a)
	other, rest := samples.Roomy(b)
	kept, left := slices.Clone(all), slices.Clone(rest)
	untouched := func() bool { return slices.Equal(all, kept) && slices.Equal(rest, left) }
	told, again := Gone(one, other), Gone(one, other)
	if !slices.Equal(told, want) || !slices.Equal(again, want) {
		t.Errorf("Gone(%v, %v): %v, and then %v, want %v", a, b, told, again, want)
	}
	if !untouched() {
		t.Errorf("Gone(%v, %v): what was given is %v, %v", a, b, all, rest)
	}
	clear(told[:cap(told)])
	if !untouched() || !slices.Equal(again, want) || !slices.Equal(Gone(one, other), want) {
		t.Errorf("Gone(%v, %v): what was told is not the caller's own", a, b)
	}
	samples.Spoil(all)
	samples.Spoil(rest)
	if !slices.Equal(again, want) {
		t.Errorf("Gone(%v, %v): what was told hangs on what was given", a, b)
	}
}

// among is a table of n rows of both Modes 0 and 2, and of no other one, with IDs 10, 20 and so on, of which change has changed the one at that place.
func among(mode, n, at int, change func(r *api.Row)) api.Table {
	t := api.Table{Mode: mode}
	for i := range n {
		t.Rows = append(t.Rows, api.Row{Task: api.Task{ID: 10 * (i + 1), C: 3, D: 6, T: 9, Modes: 5}})
	}
	change(&t.Rows[at])
	return t
}

// same changes nothing.
func same(r *api.Row) {}

// without is t without the row at that place.
func without(t api.Table, at int) api.Table {
	t = samples.Copied(t)
	t.Rows = slices.Delete(t.Rows, at, at+1)
	return t
}

// places calls look for tables of some numbers of rows, with each place of them.
func places(look func(n, at int)) {
	for _, n := range []int{1, 2, 3, 16} {
		for at := range n {
			look(n, at)
		}
	}
}

func TestGoneOfATableAndItself(t *testing.T) { // P15.3
	for _, x := range append(samples.Tables(), samples.Fitting()...) {
		for mode := range 4 {
			leaves(t, in(x, mode), in(x, mode))
		}
	}
}

func TestGoneOfTablesThatMayNotBe(t *testing.T) { // P15.3, P1
	good := samples.Altered(samples.Rising(3), 1, func(r *api.Row) { r.Task.Modes = 15 })
	full := in(samples.Rising(16), 2)
	for _, x := range append(samples.WrongTables(), samples.Rising(5000), api.Table{Mode: -1}, api.Table{Mode: 4}, api.Table{Rows: make([]api.Row, 3), Mode: -9}) {
		for _, y := range []api.Table{{}, {Mode: 1}, good, full, x} {
			leaves(t, x, y)
			leaves(t, y, x)
		}
	}
}

func TestGoneOfWhatIsNoMoreThere(t *testing.T) { // P15.3
	places(func(n, at int) {
		a := among(0, n, 0, same)
		leaves(t, a, without(a, at), a.Rows[at].Task)
		leaves(t, without(a, at), a)
		// One of the same numbers and another ID stands in its place.
		leaves(t, a, samples.Altered(a, at, func(r *api.Row) { r.Task.ID++ }), a.Rows[at].Task)
	})
	a := among(2, 16, 0, same)
	leaves(t, a, api.Table{Mode: 2}, table.Tasks(a)...)
	leaves(t, a, api.Table{Mode: 1}, table.Tasks(a)...)
	leaves(t, a, in(a, 1), table.Tasks(a)...)
	leaves(t, api.Table{Mode: 2}, a)
	leaves(t, api.Table{}, api.Table{Mode: 3})
}

func TestGoneOfWhatIsNotInTheOtherTablesMode(t *testing.T) { // P15.3
	places(func(n, at int) {
		for mode := range 4 {
			for modes := 1; modes < 16; modes++ {
				a := among(mode, n, at, func(r *api.Row) { r.Task.Modes = 15 })
				b := samples.Altered(a, at, func(r *api.Row) { r.Task.Modes = modes })
				// In which modes it is beside b's does not count.
				if modes>>mode&1 == 1 {
					leaves(t, a, b)
				} else {
					leaves(t, a, b, a.Rows[at].Task)
				}
				// Nor does one that is not in a's, whatever became of it.
				if modes>>mode&1 == 0 {
					leaves(t, b, a)
					leaves(t, b, without(a, at))
					leaves(t, b, samples.Altered(a, at, func(r *api.Row) { r.Task.C, r.Task.D, r.Task.T = 1, 2, 4 }))
				}
			}
		}
	})
}

func TestGoneOfWhatIsAnotherOne(t *testing.T) { // P15.3
	places(func(n, at int) {
		for _, mode := range []int{0, 2} {
			a := among(mode, n, at, same)
			gone := a.Rows[at].Task
			for d := int64(3); d <= 9; d++ {
				for p := d; p <= 30; p++ {
					for _, c := range []int64{1, 2, 3} {
						if d != 6 || p != 9 {
							// All of it is gone, and not the difference alone.
							leaves(t, a, among(mode, n, at, func(r *api.Row) { r.Task.C, r.Task.D, r.Task.T = c, d, p }), gone)
						}
					}
				}
			}
			leaves(t, a, among(mode, n, at, func(r *api.Row) { r.Task.C, r.Task.D = 7, 7 }), gone)
			leaves(t, a, among(mode, n, at, func(r *api.Row) { r.Task.C, r.Task.D, r.Task.T = 1, 1, 1<<31 }), gone)
		}
	})
}

func TestGoneOfServers(t *testing.T) { // P15.3
	places(func(n, at int) {
		of := func(c int64, server bool) api.Table {
			return among(2, n, at, func(r *api.Row) { r.Task.C, r.Task.D, r.Server = c, 9, server })
		}
		for c := int64(1); c <= 9; c++ {
			for less := int64(1); less <= 9; less++ {
				whole := of(c, true).Rows[at].Task
				leaves(t, of(c, true), of(less, false), whole)
				leaves(t, of(c, false), of(less, true), whole)
				part := whole
				part.C = c - less
				for _, server := range []bool{false, true} {
					if less < c {
						leaves(t, of(c, server), of(less, server), part)
					} else {
						leaves(t, of(c, server), of(less, server))
					}
				}
			}
		}
	})
}

func TestGoneOfWhatHasAnotherC(t *testing.T) { // P15.3
	places(func(n, at int) {
		for _, modes := range []int{1, 5, 15} {
			of := func(c int64) api.Table {
				return among(0, n, at, func(r *api.Row) { r.Task.C, r.Task.Modes = c, modes })
			}
			for c := int64(1); c <= 6; c++ {
				for now := int64(1); now <= 6; now++ {
					if now >= c {
						leaves(t, of(c), of(now))
						continue
					}
					part := api.Task{ID: 10 * (at + 1), C: c - now, D: 6, T: 9, Modes: modes}
					leaves(t, of(c), of(now), part)
					// What is told of its Modes is what it had.
					other := samples.Altered(of(now), at, func(r *api.Row) { r.Task.Modes = 3 })
					leaves(t, of(c), other, part)
				}
			}
		}
	})
	great := samples.Set(0, 15, 1<<31, 1<<31, 1<<31)
	leaves(t, great, samples.Altered(great, 0, func(r *api.Row) { r.Task.C = 1 }), api.Task{ID: 10, C: 1<<31 - 1, D: 1 << 31, T: 1 << 31, Modes: 15})
	leaves(t, great, samples.Altered(great, 0, func(r *api.Row) { r.Task.C = 1<<31 - 1 }), api.Task{ID: 10, C: 1, D: 1 << 31, T: 1 << 31, Modes: 15})
}

func TestGoneOfTwoModes(t *testing.T) { // P15.3
	// Of each set of modes there is a task.
	var numbers []int64
	for modes := int64(1); modes < 16; modes++ {
		numbers = append(numbers, modes, 2, 4, 8)
	}
	x := samples.Set(0, numbers...)
	for from := range 4 {
		for to := range 4 {
			var want, less []api.Task
			for _, task := range of(x, from) {
				if !slices.Contains(of(x, to), task) {
					want = append(want, task)
					less = append(less, task)
					continue
				}
				task.C = 1
				less = append(less, task)
			}
			if from != to && len(want) != 4 {
				t.Errorf("from %d to %d: %d tasks are in the one alone, want 4", from, to, len(want))
			}
			leaves(t, in(x, from), in(x, to), want...)
			smaller := in(x, to)
			for i := range smaller.Rows {
				smaller.Rows[i].Task.C = 1
			}
			leaves(t, in(x, from), smaller, less...)
		}
	}
}

func TestGoneIsToldByRisingIDs(t *testing.T) { // P15.3
	a := api.Table{}
	for id := range 16 {
		a.Rows = append(a.Rows, api.Row{Task: api.Task{ID: 60 * id, C: 4, D: 6, T: 9, Modes: 1 + 2*(id%8)}})
	}
	b := samples.Copied(a)
	var want []api.Task
	for i := range b.Rows {
		gone := a.Rows[i].Task
		switch i % 5 {
		case 0:
			b.Rows[i].Task.C, gone.C = 3, 1
		case 1:
			b.Rows[i].Task.D = 5
		case 2:
			b.Rows[i].Task.Modes = 14
		case 3:
			b.Rows[i].Task.ID++
		default:
			b.Rows[i].Task.C = 5
			continue
		}
		want = append(want, gone)
	}
	leaves(t, a, b, want...)
	if len(want) != 13 {
		t.Errorf("%d are gone, want 13", len(want))
	}
}

// changed is a set that looks drawn by chance, of which some rows, and maybe the mode, are not as they were in x.
func changed(draw func(n int64) int64, x api.Table) api.Table {
	rows := map[int]api.Row{}
	for _, r := range x.Rows {
		switch draw(9) {
		case 0:
			continue
		case 1:
			r.Task.ID = int(draw(24))
		case 2, 3, 4:
			r.Task.C = 1 + draw(r.Task.D)
		case 5:
			r.Task.D, r.Server = r.Task.C+draw(r.Task.T-r.Task.C+1), false
		case 6:
			r.Task.Modes = 1 + int(draw(15))
		case 7:
			r.Server = r.Task.D == r.Task.T && !r.Server
		}
		rows[r.Task.ID] = r
	}
	mode := x.Mode
	if draw(3) == 0 {
		mode = int(draw(4))
	}
	return samples.Risen(mode, rows)
}

func TestGoneOfManyDrawnSets(t *testing.T) { // P15.3
	draw := samples.Drawing(18)
	whole, part, nothing := 0, 0, 0
	for range 20000 {
		a := samples.DrawnSet(draw)
		b := changed(draw, a)
		want := goneOf(a, b)
		leaves(t, a, b, want...)
		if len(want) == 0 {
			nothing++
		}
		for _, task := range want {
			if was, _ := table.Find(a, task.ID); was.Task.C == task.C {
				whole++
			} else {
				part++
			}
		}
	}
	if whole < 1000 || part < 500 || nothing < 1000 {
		t.Errorf("%d tasks are gone, of %d some work is, and from %d sets nothing is: too few of one kind", whole, part, nothing)
	}
}
