// Package samples has tasks and times for the tests of the layers that reckon with them. No layer imports it.
package samples

import (
	"math"
	"slices"

	"horarium/api"
)

// Last is the greatest time that there is.
const Last = int64(1) << 40

// Times are some of all times, with the least and the greatest ones.
func Times() []int64 {
	return []int64{0, 1, 2, 3, 4, 5, 100, 4095, 4096, 4097, 1<<20 - 1, 1 << 20, 1<<20 + 1, 1<<31 - 1, 1 << 31, 1<<31 + 1, Last - 1, Last}
}

// NoTimes are numbers that are no time.
func NoTimes() []int64 {
	return []int64{math.MinInt64, math.MinInt64 + 1, -Last, -1 << 31, -2, -1, Last + 1, Last + 2, 2 * Last, math.MaxInt64 - 1, math.MaxInt64}
}

// Same is n times t.
func Same(n int, t api.Task) []api.Task {
	return slices.Repeat([]api.Task{t}, n)
}

// Wrong are tasks that may not be, each for another reason.
func Wrong() []api.Task {
	return []api.Task{
		{},
		{ID: -1, C: 1, D: 1, T: 1, Modes: 1},
		{ID: 1024, C: 1, D: 1, T: 1, Modes: 1},
		{ID: 1, C: 0, D: 1, T: 1, Modes: 1},
		{ID: 1, C: -1, D: 1, T: 1, Modes: 1},
		{ID: 1, C: 3, D: 2, T: 4, Modes: 1},
		{ID: 1, C: 1, D: 5, T: 4, Modes: 1},
		{ID: 1, C: 5, D: 5, T: 4, Modes: 1},
		{ID: 1, C: 1, D: 1, T: 0, Modes: 1},
		{ID: 1, C: 1, D: 0, T: 1, Modes: 1},
		{ID: 1, C: -1, D: -1, T: -1, Modes: 1},
		{ID: 1, C: 1, D: 1, T: 1<<31 + 1, Modes: 1},
		{ID: 1, C: 1, D: 1, T: 1, Modes: 0},
		{ID: 1, C: 1, D: 1, T: 1, Modes: 16},
		{ID: math.MinInt, C: math.MinInt64, D: math.MinInt64, T: math.MinInt64, Modes: math.MinInt},
		{ID: math.MaxInt, C: math.MaxInt64, D: math.MaxInt64, T: math.MaxInt64, Modes: math.MaxInt},
	}
}

// Refused are rows that may not be: too many tasks, or a wrong one at the first, a middle or the last place.
func Refused() [][]api.Task {
	good := api.Task{ID: 5, C: 1, D: 1, T: 2, Modes: 1}
	rows := [][]api.Task{Same(17, good), Same(18, good), Same(1<<10, good)}
	for _, bad := range Wrong() {
		for _, n := range []int{1, 2, 3, 16} {
			for at := range n {
				l := Same(n, good)
				l[at] = bad
				rows = append(rows, l)
			}
		}
	}
	return rows
}

// Drawing draws numbers from 0 to below n, in a row that looks like chance and is the same in every run.
func Drawing(seed int) func(n int64) int64 {
	x := uint64(88172645463325252) + uint64(seed)
	return func(n int64) int64 {
		x ^= x << 13
		x ^= x >> 7
		x ^= x << 17
		return int64(x >> 8 % uint64(n))
	}
}

// Drawn is a row of up to most tasks that may be, of periods from least to greatest.
func Drawn(draw func(n int64) int64, most, least, greatest int64) []api.Task {
	var l []api.Task
	for range draw(most + 1) {
		t := least + draw(greatest-least+1)
		d := 1 + draw(t)
		if draw(3) == 0 {
			d = t
		}
		l = append(l, api.Task{ID: int(draw(1024)), C: 1 + draw(d), D: d, T: t, Modes: 1 + int(draw(15))})
	}
	return l
}
