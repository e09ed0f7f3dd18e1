package registry

import (
	"fmt"
	"slices"
	"testing"

	"horarium/api"
	"horarium/disk"
	"horarium/journal"
	"horarium/judge"
	"horarium/samples"
	"horarium/table"
)

// past is a way in which a registry of slots of k sectors, whose log has 3, came to be.
type past struct {
	name string
	live func(t *testing.T, k int) *begun
}

// tornIn lets b's call fail in its n-th operation, and the disk crash: all writes but the last one are whole, that one is torn. Whatever was called, b is as it was.
func tornIn(t *testing.T, b *begun, n int, call func() api.Errno) *begun {
	t.Helper()
	b.fails(t, "torn", n, call)
	fates := slices.Repeat([]api.Fate{{Kind: 1}}, b.d.Open())
	fates[len(fates)-1] = api.Fate{Kind: 2, At: 50}
	b.d.Crash(fates)
	b.reopens(t, "torn")
	return b
}

// first is a set, some is what may be done to it, and to what becomes of that.
func first() api.Table {
	return samples.Set(1, 15, 1, 8, 8)
}

func some() []api.Op {
	return []api.Op{samples.AdmitsSeven(3, 1, 4, 4), samples.TurnsTo(0), samples.Resizes(7, 2)}
}

// second is a registry whose second snapshot has what the first one, and two ops, had, and whose log has these ops.
func second(t *testing.T, k int, l ...api.Op) *begun {
	t.Helper()
	b := holding(t, k, 3, first(), some()[:2]...)
	b.snapshots(t, "second")
	for _, o := range l {
		b.does(t, "second", o, nil)
	}
	return b
}

func pasts() []past {
	return []past{
		{"formatted", func(t *testing.T, k int) *begun {
			d := disk.New(2*k + 3)
			return &begun{d: d, k: k, r: formats(t, "formatted", d, k)}
		}},
		{"of a set", func(t *testing.T, k int) *begun { return holding(t, k, 3, first()) }},
		{"with ops", func(t *testing.T, k int) *begun { return holding(t, k, 3, first(), some()[:2]...) }},
		{"full", func(t *testing.T, k int) *begun { return holding(t, k, 3, first(), some()...) }},
		{"of a second snapshot", func(t *testing.T, k int) *begun { return second(t, k) }},
		{"with an op over an old one", func(t *testing.T, k int) *begun { return second(t, k, some()[2]) }},
		{"of a third snapshot", func(t *testing.T, k int) *begun {
			b := second(t, k, some()[2])
			b.snapshots(t, "third")
			b.does(t, "third", samples.Removes(10), nil)
			return b
		}},
		{"formatted anew", func(t *testing.T, k int) *begun {
			b := second(t, k, some()[2])
			return &begun{d: b.d, k: k, r: formats(t, "anew", b.d, k)}
		}},
		{"behind a torn op", func(t *testing.T, k int) *begun {
			b := holding(t, k, 3, first(), some()[0])
			return tornIn(t, b, 2, func() api.Errno { return b.r.Do(samples.Removes(10), nil) })
		}},
		{"behind a torn snapshot", func(t *testing.T, k int) *begun {
			b := holding(t, k, 3, first(), some()[0])
			return tornIn(t, b, k+1, func() api.Errno { return b.r.Snapshot() })
		}},
		{"behind an op's fault", func(t *testing.T, k int) *begun {
			b := holding(t, k, 3, first(), some()[0])
			b.fails(t, "fault", 2, func() api.Errno { return b.r.Do(some()[1], nil) })
			b.ops, b.set = some()[:2], after(t, first(), some()[:2]...)
			b.reopens(t, "fault")
			return b
		}},
		{"behind a snapshot's fault", func(t *testing.T, k int) *begun {
			b := holding(t, k, 3, first(), some()[0])
			b.fails(t, "fault", k+1, func() api.Errno { return b.r.Snapshot() })
			b.snap, b.ops = b.set, nil
			b.reopens(t, "fault")
			return b
		}},
	}
}

// deed is what may be done to a registry: by so many writes, behind so many reads, and by a flush. It makes b what it is to be.
type deed struct {
	name          string
	reads, writes int
	call          func(b *begun) api.Errno
	make          func(b *begun)
}

// operations is how many it takes.
func (x deed) operations() int {
	return x.reads + x.writes + 1
}

// op is the deed that does o, beside some tasks.
func op(t *testing.T, o api.Op) deed {
	return deed{
		name:   fmt.Sprintf("Do(%+v)", o),
		writes: 1,
		call:   func(b *begun) api.Errno { return b.r.Do(o, samples.Small(1)) },
		make:   func(b *begun) { b.ops, b.set = append(slices.Clone(b.ops), o), after(t, b.set, o) },
	}
}

// deeds are those that may be done to b.
func deeds(t *testing.T, b *begun) []deed {
	l := []deed{
		{"Snapshot", 0, b.k, func(b *begun) api.Errno { return b.r.Snapshot() }, func(b *begun) { b.snap, b.ops = b.set, nil }},
		{"Format", 2 * b.k, b.k,
			func(b *begun) api.Errno { _, err := Format(b.d, b.k); return err },
			func(b *begun) { b.snap, b.ops, b.set = api.Table{}, nil, api.Table{} }},
	}
	if b.left() == 0 {
		return l
	}
	for _, o := range []api.Op{samples.Admits(api.Task{ID: 3, C: 1, D: 16, T: 16, Modes: 9}), samples.Removes(10), samples.Resizes(10, 2), samples.TurnsTo(3)} {
		if _, err := judge.May(b.set, o, samples.Small(1)); err == api.OK {
			l = append(l, op(t, o))
		}
	}
	return l
}

// goesOn looks at a registry that was found again: twice, and behind a crash, and as one to which more is done.
func goesOn(t *testing.T, what string, b *begun) {
	t.Helper()
	b.reopens(t, what)
	b.has(t, what)
	if b.left() > 0 {
		b.does(t, what, samples.Admits(api.Task{ID: 500, C: 1, D: 64, T: 64, Modes: 8}), nil)
		b.reopens(t, what)
	}
	if len(bytesOf(t, b.set)) > 43*b.k {
		b.deniesSnapshot(t, what, api.ErrArg)
		return
	}
	b.snapshots(t, what)
	b.does(t, what, samples.TurnsTo(2), nil)
	b.reopens(t, what)
}

// rows are all rows of n fates: lost, whole, and torn in these places.
func rows(n int, places ...int) [][]api.Fate {
	if n == 0 {
		return [][]api.Fate{nil}
	}
	l := []api.Fate{{Kind: 0}, {Kind: 1}}
	for _, at := range places {
		l = append(l, api.Fate{Kind: 2, At: at})
	}
	var all [][]api.Fate
	for _, row := range rows(n-1, places...) {
		for _, f := range l {
			all = append(all, append(slices.Clone(row), f))
		}
	}
	return all
}

// crashed looks at a deed that fails in its n-th operation, with a crash behind it: it is done if it got to its flush and all of its writes came to lie there, else nothing is.
func crashed(t *testing.T, what string, b *begun, x deed, n int, row []api.Fate) {
	t.Helper()
	what = fmt.Sprintf("%s, fates %v", what, row)
	b.fails(t, what, n, func() api.Errno { return x.call(b) })
	fresh := samples.Sectors(b.d)
	b.d.Crash(row)
	if n == x.operations() && slices.Equal(samples.Sectors(b.d), fresh) {
		x.make(b)
	}
	goesOn(t, what, b)
}

// TestACrashInEachPlaceOfADeed: with its writes torn in each place, or in some if there are many.
func TestACrashInEachPlaceOfADeed(t *testing.T) { // P20.3
	every := make([]int, 65)
	for at := range every {
		every[at] = at
	}
	for i, places := range [][]int{every, {0, 20, 48, 55, 63}, {55}} {
		k := i + 1
		for _, p := range pasts() {
			for _, x := range deeds(t, p.live(t, k)) {
				for n := x.reads + 1; n <= x.operations(); n++ {
					what := fmt.Sprintf("%s of one %s, k %d, operation %d", x.name, p.name, k, n)
					for _, row := range rows(n-1-x.reads, places...) {
						crashed(t, what, p.live(t, k), x, n, row)
					}
				}
			}
		}
	}
}

// TestAFaultInEachPlaceOfADeed: without a crash, what was written lies there once Open has flushed.
func TestAFaultInEachPlaceOfADeed(t *testing.T) { // P20.2, P20.3
	for k := 1; k <= 3; k++ {
		for _, p := range pasts() {
			for _, x := range deeds(t, p.live(t, k)) {
				for n := 1; n <= x.operations(); n++ {
					what := fmt.Sprintf("%s of one %s, k %d, operation %d", x.name, p.name, k, n)
					b := p.live(t, k)
					b.fails(t, what, n, func() api.Errno { return x.call(b) })
					if x.reads == 0 {
						b.isBad(t, what)
					}
					if n == x.operations() {
						x.make(b)
					}
					goesOn(t, what, b)
				}
			}
		}
	}
}

// TestAFaultOfOpenBehindADeed: as long as no Open is done, what was under way may be there or not; once one is, it stays so.
func TestAFaultOfOpenBehindADeed(t *testing.T) { // P20.1, P20.3
	for _, p := range pasts() {
		for _, x := range deeds(t, p.live(t, 2)) {
			for at := 1; at <= 6; at++ {
				for _, f := range []api.Fate{{Kind: 0}, {Kind: 1}, {Kind: 2, At: 48}} {
					what := fmt.Sprintf("%s of one %s, operation %d of Open, fate %v", x.name, p.name, at, f)
					b := p.live(t, 2)
					b.fails(t, what, x.operations(), func() api.Errno { return x.call(b) })
					b.fails(t, what, at, func() api.Errno { _, err := Open(b.d, 2); return err })
					b.d.Crash([]api.Fate{f, f})
					// Once the flush is done, nothing is open.
					if at > 1 || f.Kind == 1 {
						x.make(b)
					}
					goesOn(t, what, b)
				}
			}
		}
	}
}

// life is a registry over many drawn calls, faults and crashes.
type life struct {
	draw func(n int64) int64
	d    *disk.Disk
	k    int
	r    *Registry
	// told is the set of all that was told as done, perhaps that of all this and of what was under way.
	told, perhaps api.Table
	left          int
	// counts is how often each thing happened.
	counts map[string]int
}

// steps does one op, or a snapshot, with a fault now and then.
func (l *life) steps(t *testing.T, what string) {
	t.Helper()
	if l.draw(3) == 0 {
		l.d.Fail(1 + int(l.draw(int64(l.k)+2)))
	}
	l.perhaps = l.told
	switch {
	case l.draw(30) == 0:
		l.formats(t, what)
	case l.draw(6) == 0 || l.left == 0 && l.draw(3) > 0:
		l.snapshots(t, what)
	default:
		l.does(t, what)
	}
	l.d.Fail(0)
}

// formats begins it anew. If that fails the disk must be opened, as the registry that was there doesn't know of it.
func (l *life) formats(t *testing.T, what string) {
	t.Helper()
	r, err := Format(l.d, l.k)
	l.counts[fmt.Sprint("format ", int(err))]++
	l.perhaps = api.Table{}
	switch err {
	case api.OK:
		l.r, l.told, l.left = r, l.perhaps, l.d.Len()-2*l.k
	case api.ErrIO:
		l.opens(t, what)
	default:
		t.Fatalf("%s: Format: error %d", what, err)
	}
}

func (l *life) snapshots(t *testing.T, what string) {
	t.Helper()
	err := l.r.Snapshot()
	l.counts[fmt.Sprint("snapshot ", int(err))]++
	size := len(bytesOf(t, l.told))
	switch {
	case err == api.OK:
		l.left = l.d.Len() - 2*l.k
	case err != api.ErrIO && err != api.ErrArg, (err == api.ErrArg) != (size > 43*l.k):
		t.Fatalf("%s: Snapshot of %d bytes: error %d", what, size, err)
	}
}

func (l *life) does(t *testing.T, what string) {
	t.Helper()
	o, extra := samples.DrawnOp(l.draw), []api.Task(nil)
	if l.draw(4) == 0 {
		extra = samples.DrawnExtra(l.draw)
	}
	next, want := judge.May(l.told, o, extra)
	if want == api.OK && l.left == 0 {
		want = api.ErrLog
	}
	err := l.r.Do(o, extra)
	l.counts[fmt.Sprint("op ", int(err))]++
	switch {
	case err == api.ErrIO && want == api.OK:
		l.perhaps = next
	case err != want:
		t.Fatalf("%s: Do(%+v, %v) of %v: error %d, want %d", what, o, extra, l.told, err, want)
	case err == api.OK:
		l.told, l.perhaps = next, next
		l.left--
	}
}

// crashes lets the disk crash, with fates of every kind, now and then of fewer writes than are open, or of more.
func (l *life) crashes() {
	n := l.d.Open()
	broken := l.d.Crash(samples.DrawnFates(l.draw, max(0, n-1+int(l.draw(3)))))
	switch {
	case n == 0:
		l.counts["crash of nothing"]++
	case broken == 0:
		l.counts["crash of what became whole"]++
	default:
		l.counts["crash"]++
	}
}

// opens opens the registry, over crashes, and faults of Open itself.
func (l *life) opens(t *testing.T, what string) {
	t.Helper()
	for {
		if l.draw(2) == 0 {
			l.crashes()
		}
		if l.draw(2) == 0 {
			l.d.Fail(1 + int(l.draw(int64(2*l.k)+4)))
		}
		r, err := Open(l.d, l.k)
		l.d.Fail(0)
		l.counts[fmt.Sprint("open ", int(err))]++
		if err == api.ErrIO && r == nil {
			continue
		}
		if err != api.OK || r == nil {
			t.Fatalf("%s: Open: a registry: %t, error %d", what, r != nil, err)
		}
		l.found(t, what, r.Table())
		return
	}
}

// found looks at the set of a registry that was opened: from then on, that is what was told.
func (l *life) found(t *testing.T, what string, x api.Table) {
	t.Helper()
	switch {
	case !table.Same(x, l.told) && !table.Same(x, l.perhaps):
		t.Fatalf("%s: opened is %v, want %v or %v", what, x, l.told, l.perhaps)
	case table.Same(l.told, l.perhaps):
	case table.Same(x, l.told):
		l.counts["not what was under way"]++
	default:
		l.counts["what was under way"]++
	}
	_, has, err := journal.Open(l.d, l.k)
	if y, e := toldOf(has.Data, has.Ops); err != api.OK || e != api.OK || !table.Same(x, y) {
		t.Fatalf("%s: opened is %v, by what the journal has %v: errors %d and %d", what, x, y, err, e)
	}
	l.told, l.perhaps, l.left = x, x, l.d.Len()-2*l.k-len(has.Ops)
	l.r = opens(t, what, l.d, l.k, x, l.left)
	if l.draw(2) == 0 {
		l.d.Crash(samples.DrawnFates(l.draw, 2*l.k))
		l.r = opens(t, what+", behind a crash", l.d, l.k, x, l.left)
	}
}

// stands looks at the registry, and at its set; of one that is not good, nothing is done any more.
func (l *life) stands(t *testing.T, what string) {
	t.Helper()
	if err := judge.Fits(l.r.Table()); err != api.OK {
		t.Fatalf("%s: %v does not fit: error %d", what, l.r.Table(), err)
	}
	if l.r.Good() {
		stands(t, what, l.r, l.told, l.left)
		return
	}
	if l.draw(3) == 0 {
		b := &begun{d: l.d, k: l.k, r: l.r, set: l.told}
		b.isBad(t, what)
	}
}

func TestLongRowsOfFaultsAndCrashes(t *testing.T) { // P20.2, P20.3
	counts := map[string]int{}
	for seed := range 60 {
		k, n := 1+seed%9, 1+seed%7
		d := disk.New(2*k + n)
		l := &life{draw: samples.Drawing(1000 + seed), d: d, k: k, r: formats(t, "begin", d, k), left: n, counts: counts}
		for step := range 600 {
			what := fmt.Sprintf("seed %d, step %d", seed, step)
			l.steps(t, what)
			l.stands(t, what)
			if !l.r.Good() || l.draw(12) == 0 {
				l.opens(t, what)
			}
		}
	}
	for _, name := range []string{"op 0", "op 1", "op 12", "op 14", "op 15", "op 16", "op 17", "op 18", "op 22", "snapshot 0", "snapshot 1", "snapshot 18", "format 0", "format 18", "open 0", "open 18", "crash", "crash of what became whole", "crash of nothing", "what was under way", "not what was under way"} {
		if counts[name] < 30 {
			t.Errorf("%s: just %d times: too few (%v)", name, counts[name], counts)
		}
	}
}
