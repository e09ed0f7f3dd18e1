package counts

import (
	"fmt"
	"testing"

	"horarium/samples"
)

func (r *row) has(kind int) bool {
	return 0 <= kind && kind <= 7
}

func (r *row) add(kind int, n int64) int64 {
	if !r.has(kind) {
		return 0
	}
	r[kind] = int64(uint64(r[kind]) + uint64(n))
	return r[kind]
}

func (r *row) swap(kind int, n int64) (was, then int64) {
	if !r.has(kind) {
		return 0, 0
	}
	was, r[kind] = r[kind], n
	return was, n
}

func (r *row) most(kind int, n int64) int64 {
	if !r.has(kind) {
		return 0
	}
	r[kind] = max(r[kind], n)
	return r[kind]
}

// drawing draws what calls are made of: kinds of a few, and numbers of one size.
type drawing struct {
	draw  func(n int64) int64
	kinds []int
	size  int64
}

func drawings(seed int) *drawing {
	d := &drawing{draw: samples.Drawing(seed), size: []int64{2, 10, 1000, 1 << 62}[seed%4]}
	for range 1 + d.draw(8) {
		d.kinds = append(d.kinds, int(d.draw(8)))
	}
	return d
}

// kind is one of the drawing's, and now and then a number that is none.
func (d *drawing) kind() int {
	if d.draw(16) == 0 {
		return noKinds()[d.draw(int64(len(noKinds())))]
	}
	return d.kinds[d.draw(int64(len(d.kinds)))]
}

// number is for the most part one of the drawing's size, below 0 as often as above it, now and then near to what is there, or any.
func (d *drawing) number(there int64) int64 {
	switch d.draw(12) {
	case 0:
		return numbers()[d.draw(int64(len(numbers())))]
	case 1, 2, 3:
		return there + d.draw(5) - 2
	}
	return d.draw(2*d.size+1) - d.size
}

// TestDrawnCalls holds each call against the plain row.
func TestDrawnCalls(t *testing.T) { // P21.1
	rounds, raised, kept := 0, 0, 0
	for seed := range 800 {
		d, c, r := drawings(seed), New(), &row{}
		for i := range 100 {
			kind := d.kind()
			there := c.Get(kind)
			n := d.number(there)
			switch d.draw(20) {
			default:
				then := r.add(kind, n)
				adds(t, c, kind, n, then)
				if r.has(kind) && (then < there) != (n < 0) {
					rounds++
				}
			case 0, 1, 2:
				was, then := r.swap(kind, n)
				swaps(t, c, kind, n, was, then)
			case 3, 4, 5, 6, 7, 8:
				then := r.most(kind, n)
				mosts(t, c, kind, n, then)
				if then > there {
					raised++
				} else {
					kept++
				}
			case 9:
				*r = row{}
				c.Reset()
			}
			has(t, fmt.Sprintf("seed %d, call %d, of %d and %d", seed, i, kind, n), c, *r)
		}
	}
	if rounds < 1000 || raised < 5000 || kept < 5000 {
		t.Errorf("the drawn calls are too much alike: %d went round, of Most %d made a number greater, %d did not", rounds, raised, kept)
	}
}

// TestAllSmallCalls goes through all rows of four calls on two kinds: Add, Swap and Most, of -1 to 1, and Reset.
func TestAllSmallCalls(t *testing.T) { // P21.1
	const calls = 2*3*3 + 1
	for all := range calls * calls * calls * calls {
		c, r := New(), &row{}
		for range 4 {
			which := all % calls
			all /= calls
			kind, n := which%2*7, int64(which/2%3)-1
			switch which / 6 {
			case 0:
				adds(t, c, kind, n, r.add(kind, n))
			case 1:
				was, then := r.swap(kind, n)
				swaps(t, c, kind, n, was, then)
			case 2:
				mosts(t, c, kind, n, r.most(kind, n))
			default:
				*r = row{}
				c.Reset()
			}
		}
		if told := c.All(); told != *r || c.Sum() != r[0]+r[7] {
			t.Fatalf("four calls: All %v, Sum %d, want those of %v", told, c.Sum(), *r)
		}
	}
}
