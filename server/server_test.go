package server

import (
	"fmt"
	"math"
	"slices"
	"testing"

	"horarium/api"
	"horarium/samples"
)

// full is how much may wait by one number.
const full = int64(1) << 40

// state is what a pool must tell of a number.
type state struct {
	id           int
	waits, taken int64
}

// ids are some of all numbers by which work may be asked, with the least and the greatest ones.
func ids() []int {
	return []int{0, 1, 2, 3, 9, 15, 16, 17, 255, 256, 511, 512, 1022, 1023}
}

// noIDs are numbers by which no work may be asked.
func noIDs() []int {
	return []int{math.MinInt, math.MinInt + 1, -1 << 32, -1024, -1023, -2, -1, 1024, 1025, 2047, 1 << 31, 1 << 32, 1<<32 + 1, math.MaxInt - 1, math.MaxInt}
}

// mosts are some of all numbers that a Take may be given, the least and the greatest ones among them.
func mosts() []int64 {
	return append(append(samples.NoSpans(), samples.Spans()...), full-1, full, full+1)
}

// is looks at what an Ask tells.
func is(t *testing.T, p *Pool, id int, work int64, want api.Errno) {
	t.Helper()
	if err := p.Ask(id, work); err != want {
		t.Fatalf("Ask(%d, %d): %d, want %d", id, work, int(err), int(want))
	}
}

// asks looks at an Ask that must be done.
func asks(t *testing.T, p *Pool, id int, work int64) {
	t.Helper()
	is(t, p, id, work, api.OK)
}

// asksAll makes so much wait by that number, in pieces as great as may be.
func asksAll(t *testing.T, p *Pool, id int, all int64) {
	t.Helper()
	for ; all > api.MaxT; all -= api.MaxT {
		asks(t, p, id, api.MaxT)
	}
	asks(t, p, id, all)
}

// takes looks at what a Take tells.
func takes(t *testing.T, p *Pool, id int, most, want int64) {
	t.Helper()
	if n := p.Take(id, most); n != want {
		t.Fatalf("Take(%d, %d): %d, want %d", id, most, n, want)
	}
}

// drops looks at what a Drop tells, and at Backlog ahead of it, which is the same.
func drops(t *testing.T, p *Pool, id int, want int64) {
	t.Helper()
	if n := p.Backlog(id); n != want {
		t.Fatalf("Backlog(%d) ahead of Drop: %d, want %d", id, n, want)
	}
	if n := p.Drop(id); n != want {
		t.Fatalf("Drop(%d): %d, want %d", id, n, want)
	}
}

// tells looks at Backlog and Taken of a number.
func tells(t *testing.T, what string, p *Pool, s state) {
	t.Helper()
	if n := p.Backlog(s.id); n != s.waits {
		t.Fatalf("%s: Backlog(%d): %d, want %d", what, s.id, n, s.waits)
	}
	if n := p.Taken(s.id); n != s.taken {
		t.Fatalf("%s: Taken(%d): %d, want %d", what, s.id, n, s.taken)
	}
}

// waiting are the numbers by which something waits, rising.
func waiting(l []state) []int {
	var told []int
	for _, s := range l {
		if s.waits > 0 {
			told = append(told, s.id)
		}
	}
	slices.Sort(told)
	return told
}

// has looks at all that a pool tells without being changed, twice: that just this waits and was taken, and that the numbers that were told are the caller's own.
func has(t *testing.T, what string, p *Pool, want ...state) {
	t.Helper()
	rising := waiting(want)
	for range 2 {
		told := p.Waiting()
		if !slices.Equal(told, rising) {
			t.Fatalf("%s: Waiting: %v, want %v", what, told, rising)
		}
		for _, s := range want {
			tells(t, what, p, s)
		}
		for _, id := range append(ids(), noIDs()...) {
			if !slices.ContainsFunc(want, func(s state) bool { return s.id == id }) {
				tells(t, what, p, state{id: id})
			}
		}
		told = told[:cap(told)]
		for i := range told {
			told[i] = 77 - i
		}
	}
}

// some is a pool with a number by which something waits, one by which something waits and something was taken, and one of which all was taken; and what it must tell.
func some(t *testing.T) (*Pool, []state) {
	t.Helper()
	p := New()
	asks(t, p, 40, 30)
	asks(t, p, 3, 10)
	asks(t, p, 1000, 5)
	asks(t, p, 3, 2)
	takes(t, p, 3, 4, 4)
	takes(t, p, 1000, 5, 5)
	return p, []state{{40, 30, 0}, {3, 8, 4}, {1000, 0, 5}}
}

// without is l without its place at.
func without(l []state, at int) []state {
	return slices.Delete(slices.Clone(l), at, at+1)
}

func TestNothingWaitsInANewPool(t *testing.T) { // P19.1
	p := New()
	if p == nil {
		t.Fatal("New: nil")
	}
	has(t, "New", p)
	for _, id := range append(ids(), noIDs()...) {
		for _, most := range mosts() {
			takes(t, p, id, most, 0)
		}
		drops(t, p, id, 0)
	}
	has(t, "New, behind Take and Drop", p)
}

func TestWorkThatMayBe(t *testing.T) { // P19.1
	for _, id := range ids() {
		for _, work := range samples.Spans() {
			p := New()
			asks(t, p, id, work)
			has(t, fmt.Sprintf("Ask(%d, %d)", id, work), p, state{id, work, 0})
			asks(t, p, id, work)
			has(t, fmt.Sprintf("Ask(%d, %d) twice", id, work), p, state{id, 2 * work, 0})
			other := id ^ 5
			asks(t, p, other, 9)
			has(t, fmt.Sprintf("Ask(%d, %d) twice, and of another one", id, work), p, state{id, 2 * work, 0}, state{other, 9, 0})
		}
	}
}

func TestWorkThatMayNotBe(t *testing.T) { // P19.1
	for _, work := range samples.NoSpans() {
		what := fmt.Sprint("work ", work)
		p := New()
		for _, id := range ids() {
			is(t, p, id, work, api.ErrArg)
		}
		has(t, what, p)
		p, was := some(t)
		for _, id := range append(ids(), 3, 40, 1000) {
			is(t, p, id, work, api.ErrArg)
		}
		has(t, what, p, was...)
	}
}

func TestNumberThatMayNotBe(t *testing.T) { // P19.1
	for _, id := range noIDs() {
		what := fmt.Sprint("number ", id)
		p := New()
		for _, work := range samples.Spans() {
			is(t, p, id, work, api.ErrArg)
		}
		has(t, what, p)
		p, was := some(t)
		for _, work := range append(samples.Spans(), samples.NoSpans()...) {
			is(t, p, id, work, api.ErrArg)
		}
		has(t, what, p, was...)
	}
}

// TestJustSoMuchMayWait: up to 2^40, in pieces of any kind, and not one more.
func TestJustSoMuchMayWait(t *testing.T) { // P19.1
	for _, id := range ids() {
		for _, last := range []int64{1, 2, 100, api.MaxT - 1, api.MaxT} {
			what := fmt.Sprintf("%d, whose last piece is %d", id, last)
			p := New()
			asksAll(t, p, id, full-last)
			has(t, what, p, state{id, full - last, 0})
			if last < api.MaxT {
				is(t, p, id, last+1, api.ErrFull)
				is(t, p, id, api.MaxT, api.ErrFull)
				has(t, what+", behind too much", p, state{id, full - last, 0})
			}
			asks(t, p, id, last)
			for _, work := range samples.Spans() {
				is(t, p, id, work, api.ErrFull)
			}
			has(t, what+", full", p, state{id, full, 0})
		}
	}
}

// TestLessBehindTooMuch: where one piece is too much, a smaller one may still wait.
func TestLessBehindTooMuch(t *testing.T) { // P19.1
	p := New()
	asksAll(t, p, 8, full-1000)
	is(t, p, 8, 1001, api.ErrFull)
	asks(t, p, 8, 990)
	is(t, p, 8, 11, api.ErrFull)
	asks(t, p, 8, 9)
	is(t, p, 8, 2, api.ErrFull)
	asks(t, p, 8, 1)
	is(t, p, 8, 1, api.ErrFull)
	has(t, "in smaller and smaller pieces", p, state{8, full, 0})
}

// TestRoomBehindATake: as much as was taken, and no more, may wait again.
func TestRoomBehindATake(t *testing.T) { // P19.1
	for _, piece := range samples.Spans() {
		p := New()
		asksAll(t, p, 8, full)
		is(t, p, 8, 1, api.ErrFull)
		takes(t, p, 8, piece, piece)
		if piece < api.MaxT {
			is(t, p, 8, piece+1, api.ErrFull)
		}
		asks(t, p, 8, piece)
		is(t, p, 8, 1, api.ErrFull)
		has(t, fmt.Sprint("behind Take of ", piece), p, state{8, full, piece})
	}
	p := New()
	asksAll(t, p, 8, full)
	takes(t, p, 8, full, full)
	asksAll(t, p, 8, full)
	is(t, p, 8, 1, api.ErrFull)
	has(t, "behind Take of all", p, state{8, full, full})
}

func TestRoomBehindADrop(t *testing.T) { // P19.1
	p := New()
	asksAll(t, p, 8, full)
	takes(t, p, 8, 5, 5)
	drops(t, p, 8, full-5)
	asksAll(t, p, 8, full)
	is(t, p, 8, 1, api.ErrFull)
	has(t, "behind Drop", p, state{8, full, 0})
}

// TestAnotherNumberIsNotFull: how much may wait is by each number.
func TestAnotherNumberIsNotFull(t *testing.T) { // P19.1
	p := New()
	asksAll(t, p, 8, full)
	for _, id := range ids() {
		asks(t, p, id, api.MaxT)
		is(t, p, 8, 1, api.ErrFull)
		drops(t, p, id, api.MaxT)
	}
	asksAll(t, p, 7, full)
	asksAll(t, p, 9, full-1)
	is(t, p, 7, 1, api.ErrFull)
	is(t, p, 9, 2, api.ErrFull)
	has(t, "three numbers", p, state{8, full, 0}, state{7, full, 0}, state{9, full - 1, 0})
}

// TestWrongIsNamedAheadOfFull: of both errors it is the one that the promise names first.
func TestWrongIsNamedAheadOfFull(t *testing.T) { // P19.1, R2
	p := New()
	asksAll(t, p, 8, full)
	for _, work := range samples.NoSpans() {
		is(t, p, 8, work, api.ErrArg)
	}
	for _, id := range noIDs() {
		is(t, p, id, 1, api.ErrArg)
	}
	is(t, p, 8, 1, api.ErrFull)
	has(t, "wrong and full", p, state{8, full, 0})
}

func TestTake(t *testing.T) { // P19.1
	for _, id := range ids() {
		for _, waits := range []int64{1, 2, 3, 10, api.MaxT} {
			for _, most := range append(mosts(), 4, 9, waits-1, waits, waits+1) {
				p := New()
				asks(t, p, id, waits)
				want := max(0, min(waits, most))
				takes(t, p, id, most, want)
				has(t, fmt.Sprintf("Take(%d, %d) of %d", id, most, waits), p, state{id, waits - want, want})
				takes(t, p, id, math.MaxInt64, waits-want)
				has(t, fmt.Sprintf("Take(%d, %d) of %d, and the rest", id, most, waits), p, state{id, 0, waits})
			}
		}
	}
}

// TestTakeOfAll: as much as may wait by a number may be taken at once.
func TestTakeOfAll(t *testing.T) { // P19.1
	for _, most := range []int64{full, full + 1, math.MaxInt64} {
		p := New()
		asksAll(t, p, 8, full)
		takes(t, p, 8, most, full)
		has(t, fmt.Sprint("Take of ", most), p, state{8, 0, full})
	}
	p := New()
	asksAll(t, p, 8, full)
	takes(t, p, 8, full-1, full-1)
	has(t, "Take of all but one", p, state{8, 1, full - 1})
}

// TestTakeOfNothing: a most below 1 takes nothing, whatever waits.
func TestTakeOfNothing(t *testing.T) { // P19.1
	for _, most := range []int64{math.MinInt64, math.MinInt64 + 1, -full, -30, -8, -2, -1, 0} {
		p, was := some(t)
		for _, s := range was {
			takes(t, p, s.id, most, 0)
		}
		has(t, fmt.Sprint("Take of ", most), p, was...)
	}
}

// TestTakeWhereNothingWaits: by no number by which nothing was asked, or nothing waits any more, or nothing may be asked.
func TestTakeWhereNothingWaits(t *testing.T) { // P19.1
	for _, most := range mosts() {
		p, was := some(t)
		for _, id := range append(append(ids(), noIDs()...), 41, 1000) {
			if id != 3 {
				takes(t, p, id, most, 0)
			}
		}
		has(t, fmt.Sprint("Take of ", most), p, was...)
		drops(t, p, 40, 30)
		takes(t, p, 40, most, 0)
		has(t, fmt.Sprintf("Take of %d, behind Drop", most), p, was[1:]...)
	}
}

// TestPieceByPiece: what waits is taken in any pieces, amid which more may be asked.
func TestPieceByPiece(t *testing.T) { // P19.1, P19.2
	p := New()
	asks(t, p, 5, 10)
	for i, c := range []struct{ ask, most, want, waits int64 }{{0, 4, 4, 6}, {0, 4, 4, 2}, {0, 4, 2, 0}, {0, 4, 0, 0}, {3, 1, 1, 2}, {7, 9, 9, 0}, {1, 1, 1, 0}, {1, 2, 1, 0}} {
		if c.ask > 0 {
			asks(t, p, 5, c.ask)
		}
		was := p.Taken(5)
		takes(t, p, 5, c.most, c.want)
		has(t, fmt.Sprint("piece ", i), p, state{5, c.waits, was + c.want})
	}
	tells(t, "piece by piece", p, state{5, 0, 22})
}

func TestDrop(t *testing.T) { // P19.1
	_, all := some(t)
	for i, s := range all {
		what := fmt.Sprint("Drop of ", s.id)
		p, was := some(t)
		rest := without(was, i)
		drops(t, p, s.id, s.waits)
		tells(t, what, p, state{id: s.id})
		has(t, what, p, rest...)
		drops(t, p, s.id, 0)
		has(t, what+" twice", p, rest...)
		asks(t, p, s.id, 6)
		has(t, what+", and Ask", p, append(rest, state{s.id, 6, 0})...)
		takes(t, p, s.id, 2, 2)
		has(t, what+", and Take", p, append(rest, state{s.id, 4, 2})...)
		drops(t, p, s.id, 4)
		has(t, what+", and again", p, rest...)
	}
}

// TestDropWhereNothingWaits: nothing changes but what was taken by that number.
func TestDropWhereNothingWaits(t *testing.T) { // P19.1
	p, was := some(t)
	for _, id := range append(append(ids(), noIDs()...), 41, 1001) {
		if id != 3 {
			drops(t, p, id, 0)
			drops(t, p, id, 0)
			has(t, fmt.Sprint("Drop of ", id), p, was...)
		}
	}
}

// TestDropOfARefusedOne: what was not asked does not wait.
func TestDropOfARefusedOne(t *testing.T) { // P19.1
	p := New()
	is(t, p, 6, 0, api.ErrArg)
	is(t, p, 1024, 1, api.ErrArg)
	drops(t, p, 6, 0)
	drops(t, p, 1024, 0)
	has(t, "behind Drop", p)
}

func TestDropOfAll(t *testing.T) { // P19.1
	p, was := some(t)
	for _, s := range was {
		drops(t, p, s.id, s.waits)
	}
	has(t, "Drop of all", p)
	asks(t, p, 2, 9)
	has(t, "and one more", p, state{2, 9, 0})
}

// TestDropOfAFullOne tells all of it.
func TestDropOfAFullOne(t *testing.T) { // P19.1
	p := New()
	asksAll(t, p, 1023, full)
	drops(t, p, 1023, full)
	has(t, "Drop of a full one", p)
}

// TestWaiting: the numbers rise, whichever order they were asked by, each once.
func TestWaiting(t *testing.T) { // P19.1
	draw := samples.Drawing(19)
	down := ids()
	slices.Reverse(down)
	orders := [][]int{nil, {5}, {0}, {1023}, {2, 1}, {1, 2}, {1023, 0}, ids(), down}
	for range 50 {
		mixed := ids()
		for i := range mixed {
			j := int(draw(int64(i + 1)))
			mixed[i], mixed[j] = mixed[j], mixed[i]
		}
		orders = append(orders, mixed[:draw(int64(len(mixed)+1))])
	}
	for _, l := range orders {
		p := New()
		var must []state
		for i, id := range l {
			asks(t, p, id, int64(i+1))
			must = append(must, state{id, int64(i + 1), 0})
			has(t, fmt.Sprint(l[:i+1]), p, must...)
		}
		for i, id := range l {
			asks(t, p, id, 1)
			must[i].waits++
		}
		has(t, fmt.Sprint("each once more: ", l), p, must...)
		for i, id := range l {
			switch i % 3 {
			case 0:
				takes(t, p, id, int64(i+2), int64(i+2))
				must[i] = state{id, 0, int64(i + 2)}
			case 1:
				drops(t, p, id, int64(i+2))
				must[i] = state{id: id}
			default:
				takes(t, p, id, 1, 1)
				must[i] = state{id, int64(i + 1), 1}
			}
			has(t, fmt.Sprint("without those up to ", i, ": ", l), p, must...)
		}
	}
}

// TestAllNumbersWait: of all that may be, none is too much.
func TestAllNumbersWait(t *testing.T) { // P19.1
	p := New()
	var all, left []state
	for i := range 1024 {
		id := (i*389 + 7) % 1024
		asks(t, p, id, int64(1000+id))
		all = append(all, state{id, int64(1000 + id), 0})
	}
	has(t, "all numbers", p, all...)
	if n := len(p.Waiting()); n != 1024 {
		t.Fatalf("Waiting: %d numbers, want 1024", n)
	}
	for _, s := range all {
		switch s.id % 3 {
		case 0:
			takes(t, p, s.id, api.MaxT, s.waits)
			left = append(left, state{s.id, 0, s.waits})
		case 1:
			drops(t, p, s.id, s.waits)
		default:
			left = append(left, s)
		}
	}
	has(t, "of all numbers those left", p, left...)
	if n := len(p.Waiting()); n != 341 {
		t.Fatalf("Waiting: %d numbers, want 341", n)
	}
	for _, s := range left {
		drops(t, p, s.id, s.waits)
	}
	has(t, "none of all", p)
}

func TestWaitingIsTheCallersOwn(t *testing.T) { // P19.1, R3
	p, was := some(t)
	one, other := p.Waiting(), p.Waiting()
	one[0], one[1] = 4, 5
	if !slices.Equal(other, []int{3, 40}) {
		t.Errorf("Waiting: two that were told share what they have: %v", other)
	}
	has(t, "behind a change of Waiting", p, was...)
	kept := p.Waiting()
	drops(t, p, 3, 8)
	asks(t, p, 1, 1)
	asks(t, p, 2, 1)
	if !slices.Equal(kept, []int{3, 40}) {
		t.Errorf("Waiting: what was told is %v when the pool has changed", kept)
	}
}

// TestTaken: it is all that was taken since the last Drop, which no Ask, and no Take of nothing, changes.
func TestTaken(t *testing.T) { // P19.1
	p := New()
	asks(t, p, 5, 20)
	tells(t, "behind Ask", p, state{5, 20, 0})
	takes(t, p, 5, 7, 7)
	takes(t, p, 5, 0, 0)
	takes(t, p, 5, -7, 0)
	tells(t, "behind Take", p, state{5, 13, 7})
	asks(t, p, 5, 100)
	is(t, p, 5, 0, api.ErrArg)
	tells(t, "behind Take and Ask", p, state{5, 113, 7})
	takes(t, p, 5, 113, 113)
	takes(t, p, 5, 1, 0)
	tells(t, "behind Take of all", p, state{5, 0, 120})
	asks(t, p, 5, 1)
	tells(t, "behind Take of all and Ask", p, state{5, 1, 120})
	takes(t, p, 5, 9, 1)
	tells(t, "behind one more", p, state{5, 0, 121})
	drops(t, p, 5, 0)
	tells(t, "behind Drop", p, state{id: 5})
	asks(t, p, 5, 3)
	takes(t, p, 5, 2, 2)
	has(t, "behind Drop, and Take", p, state{5, 1, 2})
}

// TestMuchIsTaken: what may wait is bounded, what was taken is not.
func TestMuchIsTaken(t *testing.T) { // P19.1
	p := New()
	for i := range int64(5) {
		asksAll(t, p, 5, full)
		tells(t, "much is taken", p, state{5, full, i * full})
		takes(t, p, 5, math.MaxInt64, full)
		has(t, "much is taken", p, state{5, 0, (i + 1) * full})
	}
	asks(t, p, 5, 1)
	takes(t, p, 5, 1, 1)
	has(t, "much is taken, and one more", p, state{5, 0, 5*full + 1})
}

func TestTwoPools(t *testing.T) { // P19.1
	a, b := New(), New()
	asks(t, a, 1, 10)
	has(t, "the other", b)
	takes(t, b, 1, 5, 0)
	drops(t, b, 1, 0)
	has(t, "the one", a, state{1, 10, 0})
	asks(t, b, 1, 3)
	asks(t, b, 2, 4)
	takes(t, b, 1, 2, 2)
	has(t, "the one", a, state{1, 10, 0})
	takes(t, a, 1, 10, 10)
	has(t, "the other", b, state{1, 1, 2}, state{2, 4, 0})
	drops(t, b, 1, 1)
	has(t, "the one", a, state{1, 0, 10})
	asksAll(t, a, 2, full)
	asks(t, b, 2, api.MaxT)
	has(t, "the other", b, state{2, api.MaxT + 4, 0})
}

func TestNilPool(t *testing.T) { // the sentence behind the promises
	var p *Pool
	for range 2 {
		for _, id := range append(ids(), noIDs()...) {
			for _, work := range mosts() {
				is(t, p, id, work, api.ErrArg)
				takes(t, p, id, work, 0)
			}
			drops(t, p, id, 0)
		}
		has(t, "a nil pool", p)
	}
}

// TestZeroPool: nothing waits in a zero one, as in a new one, and it may be used as one.
func TestZeroPool(t *testing.T) { // P1, P19.1
	var p Pool
	has(t, "a zero pool", &p)
	for _, id := range append(ids(), noIDs()...) {
		for _, most := range mosts() {
			takes(t, &p, id, most, 0)
		}
		drops(t, &p, id, 0)
		is(t, &p, id, 0, api.ErrArg)
	}
	is(t, &p, 1024, 1, api.ErrArg)
	has(t, "a zero pool, behind calls", &p)
	asks(t, &p, 4, 9)
	takes(t, &p, 4, 5, 5)
	has(t, "a zero pool, behind Ask and Take", &p, state{4, 4, 5})
	drops(t, &p, 4, 4)
	has(t, "a zero pool, behind Drop", &p)
}

func TestExample(t *testing.T) { // the chapter's
	p := New()
	asks(t, p, 3, 10)
	takes(t, p, 3, 4, 4)
	if n := p.Backlog(3); n != 6 {
		t.Errorf("Backlog(3): %d, want 6", n)
	}
	has(t, "behind the example", p, state{3, 6, 4})
}
