package samples

import "horarium/api"

// TooGreat is a period that is above the greatest one that tasks may have.
const TooGreat = 1<<20 + 1

// Set is a table of that Mode, of tasks of these Modes, C, D and T, four by four, with IDs 10, 20 and so on.
func Set(mode int, numbers ...int64) api.Table {
	t := api.Table{Mode: mode}
	for i, task := range Moded(numbers...) {
		task.ID = 10 * (i + 1)
		t.Rows = append(t.Rows, api.Row{Task: task})
	}
	return t
}

// Small are n tasks of 1 of 128 each, of one mode that is not 0, so that any 128 of them fit.
func Small(n int) []api.Task {
	return Same(n, Moded(2, 1, 128, 128)[0])
}

// Smalls is a set of that Mode, of n tasks of these Modes, that are as small, and of m of those.
func Smalls(mode int, modes int64, n int, others int64, m int) api.Table {
	var numbers []int64
	for range n {
		numbers = append(numbers, modes, 1, 128, 128)
	}
	for range m {
		numbers = append(numbers, others, 1, 128, 128)
	}
	return Set(mode, numbers...)
}

// Misfit is why the tasks of a mode do not fit: two of them, by their C, D and T, and the error.
type Misfit struct {
	Numbers []int64
	Err     api.Errno
}

// In are its tasks, of these Modes, as Set takes them.
func (m Misfit) In(modes int64) []int64 {
	n := m.Numbers
	return []int64{modes, n[0], n[1], n[2], modes, n[3], n[4], n[5]}
}

// TooMuch are misfits by their work: of a load above 1 (by a lot, and by the least that can be), and of too much work at a time, though the load is not above 1 (by far, and just so).
func TooMuch() []Misfit {
	return []Misfit{
		{[]int64{3, 4, 4, 3, 4, 4}, api.ErrLoad},
		{[]int64{1, 2, 2, 1<<19 + 1, 1 << 20, 1 << 20}, api.ErrLoad},
		{[]int64{1, 1, 1024, 1, 1, 1024}, api.ErrLoad},
		{[]int64{1, 1, 2, 1, 1, 2}, api.ErrLoad},
	}
}

// TooLong are misfits by their period: one task has too great a one by itself, or only both of them do.
func TooLong() []Misfit {
	return []Misfit{
		{[]int64{1, 1, TooGreat, 1, 4, 4}, api.ErrOver},
		{[]int64{1, 4, 4, 1 << 31, 1 << 31, 1 << 31}, api.ErrOver},
		{[]int64{1, 1024, 1024, 1, 1025, 1025}, api.ErrOver},
	}
}

// Fitting are sets that fit, some of them just so.
func Fitting() []api.Table {
	l := []api.Table{
		{}, {Mode: 3}, {Rows: []api.Row{}, Mode: 1},
		Set(0, 15, 1, 1, 1), Set(2, 15, 1<<20, 1<<20, 1<<20), Set(1, 15, 1, 2, 2, 15, 1, 2, 2), Set(3, 15, 2, 3, 5, 15, 2, 4, 6), Set(0, 15, 1, 2, 2, 15, 1<<19, 1<<20, 1<<20),
		// Of all their tasks together there would be too much, or too great a period.
		Set(0, 1, 3, 4, 4, 2, 3, 4, 4, 4, 3, 4, 4, 8, 3, 4, 4), Set(1, 1, 1, 1024, 1024, 2, 1, 1025, 1025), Set(2, 3, 1, 1, 4, 12, 1, 1, 4), Set(3, 5, 4, 4, 4, 10, 5, 5, 5),
	}
	for n := range 17 {
		l = append(l, Smalls(n%4, 15, n, 1, 0), Smalls(n%4, 4, n, 8, 16-n))
	}
	return l
}

// Extras are extra tasks of all kinds: none, such as fit nearly everywhere, such as fit nowhere, too many, and such as may not be.
func Extras() [][]api.Task {
	l := [][]api.Task{nil, {}, Named(1, 1<<20, 1<<20), Named(1, 1, 1), Named(1, 1, 1, 1, 1, 1), Named(1, 1, 4, 1, 1, 4), Named(1, 1, TooGreat), Small(15), Small(16), Small(17), Small(5000)}
	for _, bad := range Wrong() {
		l = append(l, []api.Task{bad}, Same(16, bad), Same(17, bad), append(Small(1), bad), append(Small(16), bad))
	}
	return l
}

// drawnTask is one that may be, of a period that most others have, or nearly so, and of not much work.
func drawnTask(draw func(n int64) int64) api.Task {
	p := []int64{4, 6, 10, 12, 20, 30, 60, 60, 60, 120}[draw(10)]
	if draw(60) == 0 {
		p = []int64{1 << 20, TooGreat, 1021, 1 << 31}[draw(4)]
	}
	d := p
	if draw(2) == 0 {
		d = 1 + draw(p)
	}
	return api.Task{ID: int(draw(24)), C: 1 + draw(max(1, d/(1+draw(16)))), D: d, T: p, Modes: 1 + int(draw(15))}
}

// DrawnSet is a set that looks drawn by chance, of some rows or of many.
func DrawnSet(draw func(n int64) int64) api.Table {
	rows := map[int]api.Row{}
	for range draw([]int64{4, 8, 24}[draw(3)]) {
		one := drawnTask(draw)
		if len(rows) < 16 {
			rows[one.ID] = api.Row{Task: one, Server: one.D == one.T && draw(2) == 0}
		}
	}
	return Risen(int(draw(4)), rows)
}

// DrawnExtra are extra tasks that look drawn by chance; some of them may not be.
func DrawnExtra(draw func(n int64) int64) []api.Task {
	if draw(3) == 0 {
		return Small(int(draw(20)))
	}
	var l []api.Task
	for range draw([]int64{1, 3, 18}[draw(3)]) {
		l = append(l, drawnTask(draw))
	}
	if len(l) > 0 && draw(8) == 0 {
		wrong := Wrong()
		l[draw(int64(len(l)))] = wrong[draw(int64(len(wrong)))]
	}
	return l
}

// DrawnOp looks drawn by chance; most of them can be applied to a set of some IDs below 24.
func DrawnOp(draw func(n int64) int64) api.Op {
	switch draw(12) {
	case 0, 1, 2:
		return Removes(int(draw(24)))
	case 3, 4:
		return Resizes(int(draw(24)), 1+draw(9))
	case 5, 6:
		return TurnsTo(int(draw(4)))
	case 7:
		return []api.Op{{}, TurnsTo(4), Removes(-1), Resizes(3, 0), AdmitsSeven(0, 1, 1, 1)}[draw(5)]
	}
	o := Admits(drawnTask(draw))
	o.Server = o.Task.D == o.Task.T && draw(2) == 0
	return o
}

// AdmitsSeven is the op that admits a task of these Modes, C, D and T, of ID 7, that Set gives to none.
func AdmitsSeven(modes int, c, d, p int64) api.Op {
	return Admits(api.Task{ID: 7, C: c, D: d, T: p, Modes: modes})
}

// OneOfEach are ops of each kind, that can be applied to a set with a row of ID 10, and room for one of ID 7.
func OneOfEach() []api.Op {
	return []api.Op{AdmitsSeven(15, 1, 128, 128), Serves(api.Task{ID: 7, C: 1, D: 128, T: 128, Modes: 15}), Removes(10), Resizes(10, 1), TurnsTo(0), TurnsTo(3)}
}

// Refusal is an op that can't be applied to a set that fits, and why not.
type Refusal struct {
	Set api.Table
	Op  api.Op
	Err api.Errno
}

// Refusals are some of each kind, and of each error.
func Refusals() []Refusal {
	x := Set(0, 15, 1, 4, 4, 6, 1, 5, 5)
	full := Smalls(1, 1, 8, 2, 8)
	return []Refusal{
		{x, AdmitsSeven(16, 1, 4, 4), api.ErrArg}, {x, AdmitsSeven(15, 5, 4, 4), api.ErrArg}, {x, Admits(api.Task{ID: -1, C: 1, D: 1, T: 1, Modes: 1}), api.ErrArg},
		{x, Serves(api.Task{ID: 7, C: 1, D: 3, T: 4, Modes: 1}), api.ErrArg}, {x, api.Op{Kind: api.OpAdmit, Task: api.Task{ID: 7, C: 1, D: 4, T: 4, Modes: 1}, ID: 7}, api.ErrArg},
		{x, Admits(api.Task{ID: 10, C: 1, D: 4, T: 4, Modes: 15}), api.ErrThere}, {x, Serves(api.Task{ID: 20, C: 5, D: 5, T: 5, Modes: 15}), api.ErrThere},
		{full, AdmitsSeven(1, 1, 128, 128), api.ErrFull}, {full, AdmitsSeven(8, 1, 128, 128), api.ErrFull}, {full, Admits(api.Task{ID: 160, C: 1, D: 1, T: 1, Modes: 1}), api.ErrThere},
		{x, Removes(-1), api.ErrArg}, {x, Removes(1024), api.ErrArg}, {x, api.Op{Kind: api.OpRemove, ID: 10, Mode: 1}, api.ErrArg},
		{x, Removes(7), api.ErrNone}, {x, Removes(0), api.ErrNone}, {x, Removes(1023), api.ErrNone},
		{x, Resizes(-1, 1), api.ErrArg}, {x, Resizes(10, 0), api.ErrArg}, {x, Resizes(10, 1<<31+1), api.ErrArg}, {x, api.Op{Kind: api.OpResize, ID: 10, C: 1, Server: true}, api.ErrArg},
		{x, Resizes(7, 1), api.ErrNone}, {x, Resizes(1023, 1<<31), api.ErrNone}, {x, Resizes(10, 5), api.ErrArg}, {x, Resizes(20, 1<<31), api.ErrArg},
		{x, TurnsTo(-1), api.ErrArg}, {x, TurnsTo(4), api.ErrArg}, {x, api.Op{Kind: api.OpMode, Mode: 1, C: 1}, api.ErrArg},
		{x, api.Op{}, api.ErrArg}, {x, api.Op{Kind: 5}, api.ErrArg}, {x, api.Op{Kind: -1, ID: 10}, api.ErrArg},
	}
}

// Amid is l, amid other tasks: what lies in front of and behind them is the caller's, too. Nil stays so.
func Amid(l []api.Task) ([]api.Task, []api.Task) {
	if l == nil {
		return nil, nil
	}
	all := Same(len(l)+8, api.Task{ID: 77, C: 7, D: 7, T: 777, Modes: 7})
	copy(all[4:], l)
	return all[4 : 4+len(l)], all
}
