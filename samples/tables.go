package samples

import (
	"math"
	"slices"

	"horarium/api"
)

// Row is one that may be, of numbers that hang on its ID; every third one is a server.
func Row(id int) api.Row {
	t := api.Task{ID: id, C: 2 + int64(id%3), D: 6 + int64(id%5), T: 12 + int64(id%7), Modes: 1 + id%15}
	if id%3 == 0 {
		t.D = t.T
	}
	return api.Row{Task: t, Server: id%3 == 0}
}

// Table is one of rows of these IDs, as they stand.
func Table(mode int, ids ...int) api.Table {
	t := api.Table{Mode: mode}
	for _, id := range ids {
		t.Rows = append(t.Rows, Row(id))
	}
	return t
}

// Rising is a table of n rows, whose IDs are 10, 20 and so on, so that there is room between any two.
func Rising(n int) api.Table {
	t := Table(n % 4)
	for i := range n {
		t.Rows = append(t.Rows, Row(10*(i+1)))
	}
	return t
}

// DrawnTable is one of n rows that may be, of IDs below most, that looks drawn by chance.
func DrawnTable(draw func(n int64) int64, n int, most int64) api.Table {
	greatest := []int64{3, 300, 1 << 20, 1 << 31}
	rows := map[int]api.Row{}
	for len(rows) < n {
		for _, task := range Drawn(draw, 1, 1, greatest[draw(4)]) {
			task.ID = int(draw(most))
			rows[task.ID] = api.Row{Task: task, Server: task.D == task.T && draw(2) == 0}
		}
	}
	return Risen(int(draw(4)), rows)
}

// Risen is the table of these rows, by rising IDs.
func Risen(mode int, rows map[int]api.Row) api.Table {
	t := api.Table{Mode: mode}
	for id := range 1024 {
		if r, ok := rows[id]; ok {
			t.Rows = append(t.Rows, r)
		}
	}
	return t
}

// Tables are some that may be, of all numbers of rows.
func Tables() []api.Table {
	l := []api.Table{{}, {Rows: []api.Row{}, Mode: 3}, Table(0, 0), Table(3, 1023), Table(1, 0, 1023), Table(2, 0, 1, 2, 3), Table(0, 1008, 1009, 1022, 1023)}
	draw := Drawing(14)
	for n := range 17 {
		l = append(l, Rising(n), DrawnTable(draw, n, 1024), DrawnTable(draw, n, 20))
	}
	return l
}

// WrongTables are some that may not be, each for another reason.
func WrongTables() []api.Table {
	l := []api.Table{Rising(17), Rising(18), Rising(100), Table(-1), Table(4), Table(-1, 5), Table(4, 5), Table(math.MinInt, 5), Table(math.MaxInt, 5),
		Table(0, 5, 5), Table(0, 6, 5), Table(0, 1, 2, 2), Table(0, 1, 3, 2), Table(0, 2, 1, 3), Table(0, 1, 1, 2), Table(0, 3, 2, 1), Table(1, 1023, 0)}
	for _, n := range []int{1, 2, 3, 16} {
		for at := range n {
			for _, task := range Wrong() {
				if 0 <= task.ID && task.ID <= 1023 {
					task.ID = 10 * (at + 1)
				}
				l = append(l, Altered(Rising(n), at, func(r *api.Row) { r.Task = task }))
			}
			l = append(l, Altered(Rising(n), at, func(r *api.Row) { r.Server, r.Task.D = true, r.Task.T-1 }))
		}
	}
	return l
}

// Altered is a copy of t, of which change has changed the row at that place.
func Altered(t api.Table, at int, change func(r *api.Row)) api.Table {
	t = Copied(t)
	change(&t.Rows[at])
	return t
}

// Copied is t, in rows of their own.
func Copied(t api.Table) api.Table {
	return api.Table{Rows: slices.Clone(t.Rows), Mode: t.Mode}
}

// Equal tells whether a and b have the same parts.
func Equal(a, b api.Table) bool {
	is := a.Mode == b.Mode && len(a.Rows) == len(b.Rows)
	for i := 0; is && i < len(a.Rows); i++ {
		is = a.Rows[i] == b.Rows[i]
	}
	return is
}

// Roomy is t, with rows that lie amid others: what lies in front of and behind them is the caller's, too. Nil rows stay so.
func Roomy(t api.Table) (api.Table, []api.Row) {
	if t.Rows == nil {
		return t, nil
	}
	all := make([]api.Row, len(t.Rows)+8)
	for i := range all {
		all[i] = Row(500 + i)
	}
	copy(all[4:], t.Rows)
	return api.Table{Rows: all[4 : 4+len(t.Rows)], Mode: t.Mode}, all
}

// Spoil changes all rows of l, and those for which it has room.
func Spoil(l []api.Row) {
	l = l[:cap(l)]
	for i := range l {
		l[i] = api.Row{Task: api.Task{ID: -1, C: -2, D: -3, T: -4, Modes: -5}, Server: true}
	}
}
