package server

import (
	"fmt"
	"testing"

	"horarium/api"
	"horarium/samples"
)

// rows are what a pool must tell like: by each number what waits, and what was taken since the last Drop.
type rows struct {
	waits, taken [1024]int64
}

func (r *rows) ask(id int, work int64) api.Errno {
	if work <= 0 || work > 2147483648 || id < 0 || id > 1023 {
		return api.ErrArg
	}
	if r.waits[id]+work > 1099511627776 {
		return api.ErrFull
	}
	r.waits[id] += work
	return api.OK
}

func (r *rows) take(id int, most int64) int64 {
	if id < 0 || id > 1023 || most < 1 {
		return 0
	}
	piece := most
	if most > r.waits[id] {
		piece = r.waits[id]
	}
	r.waits[id] -= piece
	r.taken[id] += piece
	return piece
}

func (r *rows) drop(id int) int64 {
	if id < 0 || id > 1023 {
		return 0
	}
	dropped := r.waits[id]
	r.waits[id], r.taken[id] = 0, 0
	return dropped
}

// states are those of all numbers of which there is one.
func (r *rows) states() []state {
	var l []state
	for id := range r.waits {
		if r.waits[id] > 0 || r.taken[id] > 0 {
			l = append(l, state{id, r.waits[id], r.taken[id]})
		}
	}
	return l
}

// drawing draws what calls are made of, all of them of one kind.
type drawing struct {
	draw func(n int64) int64
	ids  []int
	// most is how great a piece is at most, and asks how many of 16 calls are an Ask.
	most, asks int64
}

func drawings(seed int) *drawing {
	d := &drawing{draw: samples.Drawing(seed), most: []int64{2, 10, 1000, api.MaxT}[seed%4]}
	d.asks = 6 + d.draw(9)
	for range 1 + d.draw(6) {
		id := int(d.draw(1024))
		if d.draw(3) == 0 {
			id = ids()[d.draw(int64(len(ids())))]
		}
		d.ids = append(d.ids, id)
	}
	return d
}

// id is one of the drawing's, and now and then one that may not be.
func (d *drawing) id() int {
	if d.draw(16) == 0 {
		return noIDs()[d.draw(int64(len(noIDs())))]
	}
	return d.ids[d.draw(int64(len(d.ids)))]
}

// work is some that may be, and now and then some that may not.
func (d *drawing) work() int64 {
	if d.draw(12) == 0 {
		return samples.NoSpans()[d.draw(int64(len(samples.NoSpans())))]
	}
	return 1 + d.draw(d.most)
}

// piece is how much is taken at most: for the most part as much as some work, now and then near to what waits, or any.
func (d *drawing) piece(waits int64) int64 {
	switch d.draw(12) {
	case 0:
		return mosts()[d.draw(int64(len(mosts())))]
	case 1, 2:
		return waits + d.draw(3) - 1
	}
	return 1 + d.draw(d.most)
}

// nearlyFull is a pool in which, by each number of the drawing, nearly as much waits as may, and what it must tell.
func (d *drawing) nearlyFull(t *testing.T) (*Pool, *rows) {
	t.Helper()
	p, r := New(), &rows{}
	for _, id := range d.ids {
		if r.waits[id] == 0 {
			all := full - d.draw(2*d.most)
			asksAll(t, p, id, all)
			r.waits[id] = all
		}
	}
	return p, r
}

// TestDrawnCalls holds each call against the plain rows.
func TestDrawnCalls(t *testing.T) { // P19.1
	told := map[api.Errno]int{}
	for seed := range 400 {
		d := drawings(seed)
		p, r := New(), &rows{}
		if seed/4%2 == 0 {
			p, r = d.nearlyFull(t)
		}
		for i := range 100 {
			id := d.id()
			switch k := d.draw(16); {
			case k < d.asks:
				work := d.work()
				want := r.ask(id, work)
				is(t, p, id, work, want)
				told[want]++
			case k < 15:
				most := d.piece(p.Backlog(id))
				takes(t, p, id, most, r.take(id, most))
			default:
				drops(t, p, id, r.drop(id))
			}
			has(t, fmt.Sprintf("seed %d, call %d, of %d", seed, i, id), p, r.states()...)
		}
	}
	if told[api.OK] < 5000 || told[api.ErrArg] < 2000 || told[api.ErrFull] < 1000 {
		t.Errorf("the drawn calls of Ask are too much alike: %v", told)
	}
}

// TestWhatWasAskedIsSomewhere: by each number, it waits, or was told by a Take, or was told by a Drop.
func TestWhatWasAskedIsSomewhere(t *testing.T) { // P19.2
	for seed := range 400 {
		d, p := drawings(seed), New()
		// Of each number what was asked, taken and dropped, all in all, and taken since the last Drop.
		asked, taken, dropped, since := map[int]int64{}, map[int]int64{}, map[int]int64{}, map[int]int64{}
		for range 150 {
			id := d.id()
			switch k := d.draw(16); {
			case k < d.asks:
				if work := d.work(); p.Ask(id, work) == api.OK {
					asked[id] += work
				}
			case k < 15:
				piece := p.Take(id, d.piece(p.Backlog(id)))
				taken[id] += piece
				since[id] += piece
			default:
				dropped[id] += p.Drop(id)
				since[id] = 0
			}
			if p.Backlog(id)+taken[id]+dropped[id] != asked[id] || p.Taken(id) != since[id] {
				t.Fatalf("seed %d: of %d %d were asked, %d wait, %d were taken, %d dropped; Taken: %d, want %d", seed, id, asked[id], p.Backlog(id), taken[id], dropped[id], p.Taken(id), since[id])
			}
		}
		for _, id := range d.ids {
			if asked[id] == 0 {
				t.Errorf("seed %d: nothing was asked by %d", seed, id)
			}
		}
		for _, id := range p.Waiting() {
			for range 64 { // enough to take all, by halves
				taken[id] += p.Take(id, max(1, p.Backlog(id)/2))
			}
			if taken[id]+dropped[id] != asked[id] {
				t.Errorf("seed %d: of %d %d were asked, %d taken, %d dropped, and nothing waits", seed, id, asked[id], taken[id], dropped[id])
			}
		}
		has(t, "when all is taken", p, left(p, d.ids)...)
	}
}

// left is what is left to tell when nothing waits any more: what was taken.
func left(p *Pool, ids []int) []state {
	var l []state
	for _, id := range ids {
		l = append(l, state{id, 0, p.Taken(id)})
	}
	return l
}

// TestAllSmallCalls goes through all rows of four calls on one number: Ask, and Take, of 0 to 3, and Drop.
func TestAllSmallCalls(t *testing.T) { // P19.1, P19.2
	const kinds = 9
	for n := range kinds * kinds * kinds * kinds {
		p, r := New(), &rows{}
		for range 4 {
			switch k := int64(n % kinds); {
			case k < 4:
				is(t, p, 5, k, r.ask(5, k))
			case k < 8:
				takes(t, p, 5, k-4, r.take(5, k-4))
			default:
				drops(t, p, 5, r.drop(5))
			}
			n /= kinds
		}
		has(t, "four calls", p, r.states()...)
	}
}
