package counts

import (
	"fmt"
	"runtime"
	"slices"
	"sync"
	"testing"

	"horarium/samples"
)

// together runs do as often as is told at the same time, and ends when all of them have: each of them waits till all are there.
func together(many int, do func(which int)) {
	var there, done sync.WaitGroup
	there.Add(many)
	for which := range many {
		done.Go(func() {
			there.Done()
			there.Wait()
			do(which)
		})
	}
	done.Wait()
}

func TestManyThatAdd(t *testing.T) { // P21.2
	const many, times = 16, 5000
	var wants [many]row
	c := New()
	together(many, func(which int) {
		draw := samples.Drawing(which)
		for range times {
			kind, n := int(draw(8)), draw(2001)-900
			wants[which].add(kind, n)
			c.Add(kind, n)
		}
	})
	want := row{}
	for _, r := range wants {
		for kind, n := range r {
			want.add(kind, n)
		}
	}
	has(t, "many that Add", c, want)
}

// TestManyThatGoRound: a sum that goes round on its way loses nothing either.
func TestManyThatGoRound(t *testing.T) { // P21.1, P21.2
	const many, times = 8, 5000
	c, want := New(), row{}
	for range many * times {
		want.add(0, greatest/3)
		want.add(7, least/5)
	}
	together(many, func(int) {
		for range times {
			c.Add(0, greatest/3)
			c.Add(7, least/5)
		}
	})
	has(t, "many that go round", c, want)
}

// TestAddTellsHowManyThereAreThen: of many that count by one, each is told a number of its own.
func TestAddTellsHowManyThereAreThen(t *testing.T) { // P21.1, P21.2
	const many, times = 8, 20000
	var told [many][]int64
	c := New()
	together(many, func(which int) {
		for range times {
			told[which] = append(told[which], c.Add(5, 1))
		}
	})
	var all []int64
	for _, l := range told {
		if !slices.IsSorted(l) {
			t.Error("what Add told one of many did not rise")
		}
		all = append(all, l...)
	}
	slices.Sort(all)
	for i, n := range all {
		if n != int64(i)+1 {
			t.Fatalf("of what Add told many, number %d is %d", i+1, n)
		}
	}
	has(t, "many that Add 1", c, row{5: many * times})
}

// TestEachKindByItself: what is done to one kind by one takes nothing from the others'.
func TestEachKindByItself(t *testing.T) { // P21.2
	const times = 20000
	c := New()
	together(8, func(which int) {
		for i := range int64(times) {
			switch which % 4 {
			case 0:
				c.Add(which, 1)
			case 1:
				c.Most(which, i+1)
			case 2:
				c.Swap(which, i+1)
			default:
				c.Add(which, -1)
			}
		}
	})
	has(t, "a kind for each", c, row{times, times, times, -times, times, times, times, -times})
}

// TestManyThatMost: the greatest that was told is there, and what is there never becomes less.
func TestManyThatMost(t *testing.T) { // P21.2
	const many, times = 8, 50000
	for _, first := range []int64{least, -many * times, 0} {
		c := New()
		c.Swap(7, first)
		var tops [many]int64
		together(many, func(which int) {
			tops[which] = first
			last := first
			for i := range times {
				// A little more than is there, and not as much more for each, so that many are about to make it greater at once.
				n := c.Get(7) + int64((which+i)%many) - 1
				tops[which] = max(tops[which], n)
				told := c.Most(7, n)
				then := c.Get(7)
				if told < n || told < last || then < told {
					t.Errorf("Most(7, %d): %d, and %d are there behind it, and were ahead of it %d", n, told, then, last)
				}
				last = then
			}
		})
		has(t, fmt.Sprint("many that Most, from ", first), c, row{7: slices.Max(tops[:])})
	}
}

// TestMostOnce: of many that tell one number each, all at once, the greatest is there.
func TestMostOnce(t *testing.T) { // P21.2
	const many = 8
	for round := range 3000 {
		c := New()
		together(many, func(which int) {
			n := int64((which+round)%many) - 3
			if told := c.Most(0, n); told < n || told > many-4 {
				t.Errorf("Most(0, %d): %d", n, told)
			}
		})
		has(t, "many that Most once", c, row{many - 4})
	}
}

// TestMostBesideAdd: a Most between others' calls of Add takes nothing of these away, so that what each of them is told was told to none before.
func TestMostBesideAdd(t *testing.T) { // P21.2
	const many, times = 4, 20000
	var told [many][]int64
	c := New()
	together(2*many, func(which int) {
		for range times {
			if which >= many {
				c.Most(3, c.Get(3)+1)
				continue
			}
			told[which] = append(told[which], c.Add(3, 1))
		}
	})
	var all []int64
	for _, l := range told {
		all = append(all, l...)
	}
	slices.Sort(all)
	if len(slices.Compact(all)) != many*times {
		t.Error("what Add told was told twice: a Most took away what was added")
	}
	if n := c.Get(3); n < many*times || n > 2*many*times {
		t.Errorf("%d are there behind %d calls of Add by 1, and as many of Most by no more than 1", n, many*times)
	}
}

// TestMostTellsWhatThereIsThen: where it makes the number greater, that is the one that it was told, whatever others add behind it.
func TestMostTellsWhatThereIsThen(t *testing.T) { // P21.1, P21.2
	const many, times = 5, 20000
	const step = many * times // more than all that is added, so that each Most is of a greater number than there is
	c := New()
	together(many, func(which int) {
		for i := range int64(times) {
			if which > 0 {
				c.Add(4, 1)
			} else if n := (i + 1) * step; c.Most(4, n) != n {
				t.Errorf("Most(4, %d) told another number", n)
			}
		}
	})
	if n := c.Get(4); n < times*step || n >= times*step+step {
		t.Errorf("%d are there behind a Most of %d, and less than %d that were added", n, times*step, step)
	}
}

// TestSwapBesideAdd: what was added is told by a Swap, or is still there.
func TestSwapBesideAdd(t *testing.T) { // P21.2
	const many, times = 4, 20000
	var taken [2 * many]int64
	c := New()
	together(2*many, func(which int) {
		for range times {
			if which < many {
				c.Add(6, 3)
			} else {
				taken[which] += c.Swap(6, 0)
			}
		}
	})
	sum := c.Get(6)
	for _, n := range taken {
		sum += n
	}
	if sum != 3*many*times {
		t.Errorf("%d of %d that were added are there, or were told by a Swap", sum, 3*many*times)
	}
}

// TestAllBesideAdd: what is looked at while others add was there at some time: no number falls, and none is greater than all that is added.
func TestAllBesideAdd(t *testing.T) { // P21.1, P21.2
	const many, times = 4, 20000
	c := New()
	together(2*many, func(which int) {
		last, sum := row{}, int64(0)
		for i := range times {
			if which < many {
				c.Add(i%8, 1)
				continue
			}
			all := row(c.All())
			for kind, n := range all {
				if n < last[kind] || n > many*times/8 || c.Get(kind) < n {
					t.Errorf("of kind %d there are %d, behind %d", kind, n, last[kind])
				}
			}
			now := c.Sum()
			if now < sum || now > many*times {
				t.Errorf("the sum is %d, behind %d", now, sum)
			}
			last, sum = all, now
			runtime.Gosched()
		}
	})
	const each = many * times / 8
	has(t, "looked at meanwhile", c, row{each, each, each, each, each, each, each, each})
}
