// Package samples has tasks, tables, times and ops for the tests of the layers that reckon with them, bytes for those of the layers that read them, and what looks at a disk for those of the layers that write there. No layer imports it.
package samples

import (
	"math"
	"slices"

	"horarium/api"
)

// Last is the greatest time that there is.
const Last = int64(1) << 40

// Times are some of all times, with the least and the greatest ones.
func Times() []int64 {
	return []int64{0, 1, 2, 3, 4, 5, 100, 4095, 4096, 4097, 1<<20 - 1, 1 << 20, 1<<20 + 1, 1<<31 - 1, 1 << 31, 1<<31 + 1, Last - 1, Last}
}

// NoTimes are numbers that are no time.
func NoTimes() []int64 {
	return []int64{math.MinInt64, math.MinInt64 + 1, -Last, -1 << 31, -2, -1, Last + 1, Last + 2, 2 * Last, math.MaxInt64 - 1, math.MaxInt64}
}

// Spans are some of all numbers from 1 to MaxT, which a period, or some work, may be, with the least and the greatest ones.
func Spans() []int64 {
	return []int64{1, 2, 3, 100, 1 << 20, 1<<20 + 1, api.MaxT - 1, api.MaxT}
}

// NoSpans are numbers that are none of these.
func NoSpans() []int64 {
	return []int64{math.MinInt64, math.MinInt64 + 1, -api.MaxT, -2, -1, 0, api.MaxT + 1, api.MaxT + 2, 1 << 32, 1<<32 + 1, Last, math.MaxInt64 - 1, math.MaxInt64}
}

// Named are tasks of these C, D and T, three by three, with IDs from 0 on.
func Named(numbers ...int64) []api.Task {
	var l []api.Task
	for i := 0; i < len(numbers); i += 3 {
		l = append(l, api.Task{ID: i / 3, C: numbers[i], D: numbers[i+1], T: numbers[i+2], Modes: 1})
	}
	return l
}

// Moded are tasks of these Modes, C, D and T, four by four, with IDs from 0 on.
func Moded(numbers ...int64) []api.Task {
	var l []api.Task
	for i := 0; i < len(numbers); i += 4 {
		l = append(l, api.Task{ID: i / 4, Modes: int(numbers[i]), C: numbers[i+1], D: numbers[i+2], T: numbers[i+3]})
	}
	return l
}

// Halves are tasks of 1 of 2, 1 of 4, and so on up to 1 of 2^15, with their T as D, and one of c and d of 2^20, for which 32 are all that is left.
func Halves(c, d int64) []api.Task {
	var numbers []int64
	for n := range 15 {
		numbers = append(numbers, 1, 2<<n, 2<<n)
	}
	return Named(append(numbers, c, d, 1<<20)...)
}

// Same is n times t.
func Same(n int, t api.Task) []api.Task {
	return slices.Repeat([]api.Task{t}, n)
}

// Wrong are tasks that may not be, each for another reason.
func Wrong() []api.Task {
	return []api.Task{
		{},
		{ID: -1, C: 1, D: 1, T: 1, Modes: 1},
		{ID: 1024, C: 1, D: 1, T: 1, Modes: 1},
		{ID: 1, C: 0, D: 1, T: 1, Modes: 1},
		{ID: 1, C: -1, D: 1, T: 1, Modes: 1},
		{ID: 1, C: 3, D: 2, T: 4, Modes: 1},
		{ID: 1, C: 1, D: 5, T: 4, Modes: 1},
		{ID: 1, C: 5, D: 5, T: 4, Modes: 1},
		{ID: 1, C: 1, D: 1, T: 0, Modes: 1},
		{ID: 1, C: 1, D: 0, T: 1, Modes: 1},
		{ID: 1, C: -1, D: -1, T: -1, Modes: 1},
		{ID: 1, C: 1, D: 1, T: 1<<31 + 1, Modes: 1},
		{ID: 1, C: 1, D: 1, T: 1, Modes: 0},
		{ID: 1, C: 1, D: 1, T: 1, Modes: 16},
		{ID: math.MinInt, C: math.MinInt64, D: math.MinInt64, T: math.MinInt64, Modes: math.MinInt},
		{ID: math.MaxInt, C: math.MaxInt64, D: math.MaxInt64, T: math.MaxInt64, Modes: math.MaxInt},
	}
}

// Refused are rows that may not be: too many tasks, or a wrong one at the first, a middle or the last place.
func Refused() [][]api.Task {
	good := api.Task{ID: 5, C: 1, D: 1, T: 2, Modes: 1}
	rows := [][]api.Task{Same(17, good), Same(18, good), Same(1<<10, good)}
	for _, bad := range Wrong() {
		for _, n := range []int{1, 2, 3, 16} {
			for at := range n {
				l := Same(n, good)
				l[at] = bad
				rows = append(rows, l)
			}
		}
	}
	return rows
}

// Drawing draws numbers from 0 to below n, in a row that looks like chance and is the same in every run.
func Drawing(seed int) func(n int64) int64 {
	x := uint64(88172645463325252) + uint64(seed)
	return func(n int64) int64 {
		x ^= x << 13
		x ^= x >> 7
		x ^= x << 17
		return int64(x >> 8 % uint64(n))
	}
}

// Drawn is a row of up to most tasks that may be, of periods from least to greatest.
func Drawn(draw func(n int64) int64, most, least, greatest int64) []api.Task {
	var l []api.Task
	for range draw(most + 1) {
		t := least + draw(greatest-least+1)
		d := 1 + draw(t)
		if draw(3) == 0 {
			d = t
		}
		l = append(l, api.Task{ID: int(draw(1024)), C: 1 + draw(d), D: d, T: t, Modes: 1 + int(draw(15))})
	}
	return l
}

// Dividing are up to 15 tasks of some work each, whose periods divide whole.
func Dividing(draw func(n int64) int64, whole int64) []api.Task {
	var l []api.Task
	n := 1 + draw(15)
	for range n {
		t := 1 + draw(whole)
		for whole%t != 0 {
			t--
		}
		c := 1 + draw(max(1, t/n))
		l = append(l, api.Task{ID: int(draw(1024)), C: c, D: c + draw(t-c+1), T: t, Modes: 1 + int(draw(15))})
	}
	return l
}

// Filled is l and a task of the period whole, that leaves just left of it (less than none, if left is below 0); false if there is no such task.
func Filled(l []api.Task, whole, left int64) ([]api.Task, bool) {
	c := whole - left
	for _, task := range l {
		c -= task.C * (whole / task.T)
	}
	if c < 1 || c > whole {
		return nil, false
	}
	return append(slices.Clone(l), api.Task{ID: 77, C: c, D: whole, T: whole, Modes: 1}), true
}

// Common is the least common multiple of all T, found by trying; 0 if it is above 2^20.
func Common(l []api.Task) int64 {
	period := int64(1)
	for _, t := range l {
		one := period
		for period%t.T != 0 {
			period += one
			if period > 1<<20 {
				return 0
			}
		}
	}
	if period > 1<<20 {
		return 0
	}
	return period
}

// Dues is how much is due by each time up to end.
func Dues(l []api.Task, end int64) []int64 {
	due := make([]int64, end+1)
	for _, task := range l {
		for x := task.D; x <= end; x += task.T {
			due[x] += task.C
		}
	}
	for x := int64(1); x <= end; x++ {
		due[x] += due[x-1]
	}
	return due
}

// Lasting is the least time from 1 on at which just as much is counted, and the work at each time up to then: time by time. It ends of some tasks, that do not load too much.
func Lasting(l []api.Task) (int64, []int64) {
	work := []int64{0}
	next := make([]int64, len(l))
	for x := int64(1); ; x++ {
		now := work[x-1]
		for i, t := range l {
			if next[i] < x {
				now += t.C
				next[i] += t.T
			}
		}
		work = append(work, now)
		if now == x {
			return x, work
		}
	}
}

// IsOwn tells whether what call tells of l is the caller's own: the same both times, and so still when l, and what was told the one time, have other numbers.
func IsOwn(call func(l []api.Task) []int64, l []api.Task) bool {
	l = slices.Clone(l)
	told, again := call(l), call(l)
	kept := slices.Clone(told)
	if !slices.Equal(again, kept) {
		return false
	}
	for i := range l {
		l[i] = api.Task{ID: 1, C: 7, D: 77, T: 777, Modes: 1}
	}
	if !slices.Equal(told, kept) {
		return false
	}
	mine := told[:cap(told)]
	for i := range mine {
		mine[i] = -1
	}
	return slices.Equal(again, kept)
}

// Admits is the op that admits a task.
func Admits(t api.Task) api.Op {
	return api.Op{Kind: api.OpAdmit, Task: t}
}

// Serves is the op that admits a server.
func Serves(t api.Task) api.Op {
	return api.Op{Kind: api.OpAdmit, Task: t, Server: true}
}

// Removes is the op that removes the task of that ID.
func Removes(id int) api.Op {
	return api.Op{Kind: api.OpRemove, ID: id}
}

// Resizes is the op that gives the task of that ID another C.
func Resizes(id int, c int64) api.Op {
	return api.Op{Kind: api.OpResize, ID: id, C: c}
}

// TurnsTo is the op that sets the mode.
func TurnsTo(mode int) api.Op {
	return api.Op{Kind: api.OpMode, Mode: mode}
}
