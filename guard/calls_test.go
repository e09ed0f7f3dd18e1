package guard

import (
	"fmt"
	"math"
	"slices"
	"testing"

	"horarium/api"
	"horarium/samples"
)

// list is what a guard must tell like: a plain list of numbers with their last release and their next one, in the order in which they came.
type list []known

func (l *list) at(id int) int {
	return slices.IndexFunc(*l, func(k known) bool { return k.id == id })
}

func (l *list) release(id int, period, now int64) api.Errno {
	if period <= 0 || period > 2147483648 || now < 0 || now > 1099511627776 {
		return api.ErrArg
	}
	at := l.at(id)
	if at < 0 {
		at = len(*l)
		*l = append(*l, known{id: id})
	}
	if now < (*l)[at].next {
		return api.ErrEarly
	}
	(*l)[at] = known{id, now, now + period}
	return api.OK
}

func (l *list) forget(id int) bool {
	at := l.at(id)
	if at >= 0 {
		*l = slices.Delete(*l, at, at+1)
	}
	return at >= 0
}

// drawing draws what calls are made of, all of them of one kind.
type drawing struct {
	draw func(n int64) int64
	ids  []int
	// most is how great a period is, and how far releases lie apart, at most.
	most, now int64
}

func drawings(seed int) *drawing {
	d := &drawing{draw: samples.Drawing(seed), most: []int64{2, 10, 1000, api.MaxT}[seed%4]}
	for range 1 + d.draw(6) {
		id := int(d.draw(8)) - 4
		if d.draw(4) == 0 {
			id = ids()[d.draw(int64(len(ids())))]
		}
		d.ids = append(d.ids, id)
	}
	return d
}

func (d *drawing) id() int {
	return d.ids[d.draw(int64(len(d.ids)))]
}

// period is one that may be, and now and then one that may not.
func (d *drawing) period() int64 {
	if d.draw(12) == 0 {
		return samples.NoSpans()[d.draw(int64(len(samples.NoSpans())))]
	}
	return 1 + d.draw(d.most)
}

// time goes on for the most part; now and then it is one near to when something may be, one far off, or none.
func (d *drawing) time(g *Guard, id int) int64 {
	switch d.draw(16) {
	case 0:
		return samples.NoTimes()[d.draw(int64(len(samples.NoTimes())))]
	case 1:
		return d.draw(d.now + 1)
	case 2, 3, 4, 5, 6:
		return g.Next(id) + d.draw(3) - 1
	}
	d.now += d.draw(d.most)
	return d.now
}

// TestDrawnCalls holds each call against the plain list.
func TestDrawnCalls(t *testing.T) { // P17.1
	told := map[api.Errno]int{}
	for seed := range 400 {
		d, g, l := drawings(seed), New(), &list{}
		for i := range 100 {
			id := d.id()
			what := fmt.Sprintf("seed %d, call %d, of %d", seed, i, id)
			if d.draw(7) == 0 {
				forgets(t, g, id, l.forget(id))
			} else {
				period, now := d.period(), d.time(g, id)
				want := l.release(id, period, now)
				is(t, g, id, period, now, want)
				told[want]++
			}
			knows(t, what, g, *l...)
		}
	}
	if told[api.OK] < 5000 || told[api.ErrArg] < 2000 || told[api.ErrEarly] < 5000 {
		t.Errorf("the drawn releases are too much alike: %v", told)
	}
}

// TestDistance: any two releases that were let, of a number that was not forgotten between, are at least the period of the first one apart.
func TestDistance(t *testing.T) { // P17.2
	type let struct{ at, period int64 }
	for seed := range 400 {
		d, g := drawings(seed), New()
		all := map[int][]let{}
		for range 150 {
			id := d.id()
			period, now := d.period(), d.time(g, id)
			if g.Release(id, period, now) != api.OK {
				continue
			}
			for _, first := range all[id] {
				if now-first.at < first.period {
					t.Fatalf("seed %d: %d is released at %d, period %d, and at %d", seed, id, first.at, first.period, now)
				}
			}
			all[id] = append(all[id], let{now, period})
		}
		for _, id := range d.ids {
			if len(all[id]) < 2 {
				t.Errorf("seed %d: %d is released %d times alone", seed, id, len(all[id]))
			}
		}
	}
}

// TestAllSmallReleases goes through all rows of three releases of one number, of small periods and times.
func TestAllSmallReleases(t *testing.T) { // P17.1, P17.2
	const kinds = 4 * 7
	for n := range kinds * kinds * kinds {
		g, l := New(), &list{}
		for range 3 {
			period, now := int64(n%4), int64(n/4%7)-1
			is(t, g, 5, period, now, l.release(5, period, now))
			n /= kinds
		}
		if len(*l) > 0 {
			tells(t, "three releases", g, (*l)[0], true)
		}
		if g.Len() != len(*l) || !slices.Equal(g.IDs(), idsOf(*l)) {
			t.Fatalf("three releases: Len %d, IDs %v, want those of %v", g.Len(), g.IDs(), *l)
		}
	}
}

// TestMany: nothing limits how many numbers something is known of.
func TestMany(t *testing.T) { // P17.1, R5
	const n = 200000
	g := New()
	var all []int
	for i := range n {
		id := i * 31 % n
		switch i % 3 {
		case 1:
			id = -id - 1
		case 2:
			id = math.MaxInt - id
		}
		releases(t, g, id, int64(i+1), int64(i))
		all = append(all, id)
	}
	for i, id := range all {
		tells(t, "of many", g, known{id, int64(i), 2*int64(i) + 1}, true)
	}
	slices.Sort(all)
	if g.Len() != n || !slices.Equal(g.IDs(), all) {
		t.Fatalf("%d numbers: Len %d, or not all of them, rising", n, g.Len())
	}
	var left []int
	for i, id := range all {
		if i%5 == 0 {
			left = append(left, id)
			continue
		}
		forgets(t, g, id, true)
	}
	if g.Len() != len(left) || !slices.Equal(g.IDs(), left) {
		t.Errorf("behind Forget of most: Len %d, or not those left, rising", g.Len())
	}
}
