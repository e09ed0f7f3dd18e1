package registry

import (
	"fmt"
	"slices"
	"testing"

	"horarium/api"
	"horarium/disk"
	"horarium/samples"
)

func TestTheExample(t *testing.T) { // the chapter's example
	d := disk.New(6)
	b := &begun{d: d, k: 1, r: formats(t, "Format", d, 1)}
	b.does(t, "1 of 2", samples.Admits(api.Task{ID: 1, C: 1, D: 2, T: 2, Modes: 15}), nil)
	b.denies(t, "2 of 3", samples.Admits(api.Task{ID: 2, C: 2, D: 3, T: 3, Modes: 15}), nil, api.ErrLoad)
	b.reopens(t, "1 of 2")
}

func TestOpsOfEachKind(t *testing.T) { // P20.2
	x := samples.Set(1, 15, 2, 128, 128, 5, 1, 64, 128)
	for _, o := range append(samples.OneOfEach(), samples.TurnsTo(1), samples.TurnsTo(2), samples.Resizes(10, 2), samples.Resizes(20, 64), samples.Removes(20), samples.Admits(api.Task{ID: 1023, C: 1, D: 1, T: 1 << 20, Modes: 8})) {
		for _, extra := range [][]api.Task{nil, {}, samples.Small(1), samples.Named(1, 1<<20, 1<<20)} {
			b := holding(t, 9, 3, x)
			b.does(t, "first", o, extra)
			b.reopens(t, "first")
		}
	}
	// Behind one that Open found, too.
	b := holding(t, 9, 3, api.Table{Mode: 2}, samples.AdmitsSeven(2, 1, 3, 3))
	b.does(t, "second", samples.Resizes(7, 2), nil)
	b.does(t, "third", samples.Removes(7), nil)
	b.reopens(t, "third")
}

// TestARowOfOps: each one stands on those ahead of it.
func TestARowOfOps(t *testing.T) { // P20.2
	l := []api.Op{
		samples.AdmitsSeven(15, 1, 4, 4), samples.Serves(api.Task{ID: 0, C: 1, D: 4, T: 4, Modes: 3}), samples.Admits(api.Task{ID: 1023, C: 1, D: 4, T: 4, Modes: 1}),
		samples.Resizes(7, 2), samples.TurnsTo(2), samples.Removes(0), samples.Resizes(1023, 2), samples.TurnsTo(0), samples.Removes(7),
		samples.AdmitsSeven(15, 2, 4, 4), samples.Removes(1023), samples.Removes(7), samples.TurnsTo(3),
	}
	d := disk.New(18 + len(l))
	b := &begun{d: d, k: 9, r: formats(t, "format", d, 9)}
	for i, o := range l {
		what := fmt.Sprintf("op %d", i)
		b.does(t, what, o, nil)
		// It goes on with the same one, or with one that was opened.
		if i%3 == 1 {
			b.reopens(t, what)
		}
	}
	has(t, "all", b.r, api.Table{Mode: 3})
}

func TestEachErrorOfAnOpThatCantBeApplied(t *testing.T) { // P20.2, R2
	for _, c := range samples.Refusals() {
		b := holding(t, 9, 2, c.Set)
		for _, extra := range samples.Extras() {
			b.denies(t, "refused", c.Op, extra, c.Err)
		}
		b.reopens(t, "refused")
		// It is told ahead of a log that is full.
		b.does(t, "fill", samples.TurnsTo(2), nil)
		b.does(t, "fill", samples.TurnsTo(3), nil)
		b.denies(t, "full", c.Op, nil, c.Err)
		b.denies(t, "full", c.Op, samples.Small(17), c.Err)
	}
}

func TestEachErrorOfASetThatDoesNotFit(t *testing.T) { // P20.2
	for _, m := range append(samples.TooMuch(), samples.TooLong()...) {
		for modes := 1; modes < 16; modes *= 2 {
			for own := range 4 {
				// One of both may be there, in this mode, but not both.
				for at := range 2 {
					x := samples.Set(own, m.In(int64(modes))...)
					first, second := admitted(x)[at], admitted(x)[1-at]
					b := holding(t, 9, 2, api.Table{Mode: own})
					if one := after(t, b.set, first); toldErr(t, one) == api.OK {
						b.does(t, "first", first, nil)
						b.denies(t, "second", second, nil, m.Err)
						b.denies(t, "second, and extra tasks", second, samples.Small(17), m.Err)
					} else {
						b.denies(t, "first", first, nil, m.Err)
					}
					b.reopens(t, "refused")
				}
			}
		}
	}
	b := holding(t, 9, 2, samples.Set(1, 15, 3, 4, 4, 8, 1, 8, 8))
	b.denies(t, "resize", samples.Resizes(10, 4), nil, api.ErrLoad)
	b.denies(t, "resize", samples.Resizes(20, 3), nil, api.ErrLoad)
	b.does(t, "resize", samples.Resizes(20, 2), nil)
	b.reopens(t, "resize")
}

// toldErr is what Open tells of a set.
func toldErr(t *testing.T, x api.Table) api.Errno {
	t.Helper()
	_, err := toldOf(bytesOf(t, x), nil)
	return err
}

func TestEachErrorOfExtraTasks(t *testing.T) { // P20.2, R3
	b := holding(t, 9, 9, samples.Set(0, 15, 2, 128, 128, 1, 1, 128, 128, 8, 1, 128, 128))
	for _, o := range samples.OneOfEach() {
		b.denies(t, "too much work", o, samples.Named(1, 1, 1), api.ErrLoad)
		b.denies(t, "too much work at a time", o, samples.Named(1, 1, 64, 1, 1, 64), api.ErrLoad)
		b.denies(t, "too great a period", o, samples.Named(1, 1, samples.TooGreat), api.ErrOver)
		b.denies(t, "too many", o, samples.Small(17), api.ErrFull)
		b.denies(t, "far too many", o, samples.Small(100000), api.ErrFull)
		for _, bad := range samples.Wrong() {
			b.denies(t, "none", o, []api.Task{bad}, api.ErrArg)
			b.denies(t, "one that is none", o, append(samples.Small(3), bad), api.ErrArg)
			b.denies(t, "too many that are none", o, samples.Same(17, bad), api.ErrFull)
		}
	}
	// They are not kept: without them it may be.
	for _, o := range samples.OneOfEach() {
		c := holding(t, 9, 2, b.set)
		c.denies(t, "with them", o, samples.Named(1, 1, 1), api.ErrLoad)
		c.does(t, "without them", o, nil)
		c.reopens(t, "without them")
	}
	// Nor are they if it is done beside them.
	c := holding(t, 9, 4, samples.Set(0, 15, 1, 4, 4))
	c.denies(t, "beside half", samples.AdmitsSeven(1, 2, 4, 4), samples.Named(2, 4, 4), api.ErrLoad)
	c.does(t, "beside half", samples.AdmitsSeven(1, 1, 4, 4), samples.Named(2, 4, 4))
	c.does(t, "beside none", samples.Resizes(7, 3), nil)
	c.denies(t, "beside some", samples.TurnsTo(0), samples.Named(1, 1<<20, 1<<20), api.ErrLoad)
	c.does(t, "beside some, in another mode", samples.TurnsTo(1), samples.Named(3, 4, 4))
	c.reopens(t, "beside some")
}

func TestALogThatIsFull(t *testing.T) { // P20.2
	for n := 1; n <= 5; n++ {
		b := holding(t, 9, n, samples.Set(2, 15, 1, 128, 128))
		for i := range n {
			b.does(t, "fill", samples.TurnsTo(i%4), nil)
		}
		for range 2 {
			for _, o := range samples.OneOfEach() {
				b.denies(t, "full", o, nil, api.ErrLog)
				b.denies(t, "full", o, samples.Small(3), api.ErrLog)
				// What may not be is told ahead of it.
				b.denies(t, "full", o, samples.Small(17), api.ErrFull)
				b.denies(t, "full", o, samples.Named(1, 1, 1, 1, 1, 1), api.ErrLoad)
			}
			b.denies(t, "full", api.Op{}, nil, api.ErrArg)
			b.reopens(t, "full")
		}
		// A Snapshot makes room.
		b.snapshots(t, "full")
		b.does(t, "room", samples.AdmitsSeven(15, 1, 4, 4), nil)
		b.reopens(t, "room")
	}
}

// TestAnOpOfWhichAnOperationFails: it is a write, and a flush.
func TestAnOpOfWhichAnOperationFails(t *testing.T) { // P20.2
	x := samples.Set(0, 15, 2, 128, 128, 1, 1, 128, 128)
	for _, o := range samples.OneOfEach() {
		for n := 1; n <= 2; n++ {
			for _, l := range [][]api.Op{nil, {samples.TurnsTo(1)}, {samples.TurnsTo(1), samples.TurnsTo(2), samples.TurnsTo(3)}} {
				what := fmt.Sprintf("%+v, operation %d", o, n)
				b := holding(t, 9, 4, x, l...)
				b.fails(t, what, n, func() api.Errno { return b.r.Do(o, samples.Small(2)) })
				b.isBad(t, what)
				// Once it is opened, it has what was written, as that is flushed ahead.
				if n == 2 {
					b.ops, b.set = append(slices.Clone(l), o), after(t, b.set, o)
				}
				bad := b.r
				b.reopens(t, what)
				b.has(t, what)
				if bad.Good() || bad.Left() != 0 || bad.Do(samples.TurnsTo(3), nil) != api.ErrIO {
					t.Errorf("%s: one that is not good became good by an Open", what)
				}
				if b.left() > 0 {
					b.does(t, what, samples.TurnsTo(1), nil)
				} else {
					b.denies(t, what, samples.TurnsTo(1), nil, api.ErrLog)
				}
			}
		}
	}
}

func TestAnOpOfWhichAnOperationFailsWhenTheLogIsFull(t *testing.T) { // P20.2, R2
	b := holding(t, 1, 1, api.Table{}, samples.TurnsTo(1))
	b.d.Fail(1)
	if err := b.r.Do(samples.TurnsTo(2), nil); err != api.ErrLog {
		t.Errorf("full: error %d, want 22", err)
	}
	if _, err := b.d.Read(0); err != api.ErrIO {
		t.Errorf("full: an operation was done")
	}
	b.stands(t, "full")
	b.fails(t, "snapshot", 1, func() api.Errno { return b.r.Snapshot() })
	b.isBad(t, "full, and not good")
	b.reopens(t, "full")
	b.denies(t, "full", samples.TurnsTo(2), nil, api.ErrLog)
}

func TestASnapshotOfEachSet(t *testing.T) { // P20.2
	for _, x := range append(samples.Fitting(), samples.Set(1, 15, 1, 4, 4, 6, 1, 5, 5)) {
		for _, n := range []int{1, 3} {
			b := holding(t, 9, n, x)
			for range 3 {
				// Of one with ops behind it, and of one without, and of one that was opened.
				b.snapshots(t, "snapshot")
				b.reopens(t, "snapshot")
				b.does(t, "behind it", samples.TurnsTo(n), nil)
				b.snapshots(t, "snapshot")
				b.does(t, "behind it", samples.TurnsTo(0), nil)
				b.reopens(t, "behind it")
			}
		}
	}
}

func TestASnapshotOfARowOfOps(t *testing.T) { // P20.2
	d := disk.New(18 + 4)
	b := &begun{d: d, k: 9, r: formats(t, "format", d, 9)}
	b.snapshots(t, "of none")
	for id := range 16 {
		if b.left() == 0 {
			b.denies(t, "full", samples.TurnsTo(1), nil, api.ErrLog)
			b.snapshots(t, fmt.Sprintf("of %d rows", id))
		}
		b.does(t, "one more", samples.Admits(api.Task{ID: 1023 - 60*id, C: 1, D: 64, T: 1 << 20, Modes: 1 + id%15}), nil)
	}
	b.snapshots(t, "of 16 rows")
	b.denies(t, "full", samples.AdmitsSeven(15, 1, 64, 1<<20), nil, api.ErrFull)
	for id := range 16 {
		b.does(t, "one less", samples.Removes(1023-60*id), nil)
		b.snapshots(t, fmt.Sprintf("of %d rows", 15-id))
		b.reopens(t, "one less")
	}
	has(t, "none", b.r, api.Table{})
}

// TestASnapshotThatIsTooLong: slots of a sector hold 43 bytes, and a row has 7 at the least.
func TestASnapshotThatIsTooLong(t *testing.T) { // P20.2
	d := disk.New(2 + 12)
	b := &begun{d: d, k: 1, r: formats(t, "format", d, 1)}
	for id := range 8 {
		b.does(t, "one more", samples.Admits(api.Task{ID: id, C: 1, D: 1 + 5*int64(id), T: 40, Modes: 1 + id}), nil)
		if size := len(bytesOf(t, b.set)); size <= 43 {
			b.snapshots(t, "fits")
			continue
		}
		for range 2 {
			b.deniesSnapshot(t, "too long", api.ErrArg)
			b.reopens(t, "too long")
		}
	}
	for range 8 - 3 {
		b.does(t, "one less", samples.Removes(b.set.Rows[0].Task.ID), nil)
	}
	b.snapshots(t, "fits again")
	b.reopens(t, "fits again")
	if len(b.set.Rows) != 3 {
		t.Errorf("%d rows, want 3", len(b.set.Rows))
	}
}

// TestASnapshotAtTheLastEpoch: there is none behind it, and nothing changes.
func TestASnapshotAtTheLastEpoch(t *testing.T) { // P20.2
	x := samples.Set(1, 15, 1, 4, 4)
	d := cells(t, 0, api.Cell{Epoch: last, Payload: bytesOf(t, x)}, api.Cell{Epoch: last, Number: 1})
	b := &begun{d: d, k: 2, snap: x, set: x, r: opens(t, "last", d, 2, x, 3)}
	b.deniesSnapshot(t, "last", api.ErrOver)
	for range 3 {
		b.does(t, "last", samples.Resizes(10, 1+int64(b.left())), nil)
		b.deniesSnapshot(t, "last", api.ErrOver)
		b.reopens(t, "last")
	}
	b.denies(t, "full", samples.TurnsTo(0), nil, api.ErrLog)
	// That it is not good is told ahead of it.
	d = cells(t, 0, api.Cell{Epoch: last, Payload: bytesOf(t, x)}, api.Cell{Epoch: last, Number: 1})
	b = &begun{d: d, k: 2, snap: x, set: x, r: opens(t, "last", d, 2, x, 3)}
	b.fails(t, "last", 1, func() api.Errno { return b.r.Do(samples.TurnsTo(0), nil) })
	b.isBad(t, "last")
}

// TestASnapshotOfWhichAnOperationFails: it writes each sector of a slot, and flushes. Whatever comes of it, the set is the same.
func TestASnapshotOfWhichAnOperationFails(t *testing.T) { // P20.2, P20.3
	for _, k := range []int{2, 3, 9} {
		for n := 1; n <= k+1; n++ {
			for _, l := range [][]api.Op{nil, {samples.TurnsTo(1)}, {samples.TurnsTo(1), samples.Resizes(10, 2), samples.AdmitsSeven(4, 1, 8, 8)}} {
				what := fmt.Sprintf("k %d, %d ops, operation %d", k, len(l), n)
				b := holding(t, k, 3, samples.Set(0, 15, 1, 4, 4, 2, 1, 8, 8), l...)
				b.fails(t, what, n, func() api.Errno { return b.r.Snapshot() })
				b.isBad(t, what)
				// Once all sectors were written, it is there.
				if n == k+1 {
					b.snap, b.ops = b.set, nil
				}
				b.reopens(t, what)
				b.has(t, what)
				b.snapshots(t, what)
				b.does(t, what, samples.TurnsTo(3), nil)
				b.reopens(t, what)
			}
		}
	}
}

// TestARegistryThatIsNotGoodAndHasTooLongASet: that it is too long is told ahead, as the journal does.
func TestARegistryThatIsNotGoodAndHasTooLongASet(t *testing.T) { // P20.2, R2
	b := holding(t, 1, 5, samples.Set(0, 15, 1, 1<<20, 1<<20, 15, 1, 1<<20, 1<<20), samples.AdmitsSeven(15, 1, 1<<20, 1<<20))
	b.deniesSnapshot(t, "too long", api.ErrArg)
	b.fails(t, "too long", 1, func() api.Errno { return b.r.Do(samples.TurnsTo(1), nil) })
	b.isBad(t, "too long")
	b.reopens(t, "too long")
}

// TestWhatIsToldIsItsOwners: neither does the registry see what becomes of a table, nor does that see what becomes of the registry.
func TestWhatIsToldIsItsOwners(t *testing.T) { // P20.2, R3
	b := holding(t, 9, 6, samples.Set(0, 15, 2, 128, 128, 1, 1, 128, 128))
	var told, kept []api.Table
	look := func(what string) {
		x := b.r.Table()
		told, kept = append(told, x), append(kept, samples.Copied(x))
		for i := range told {
			if !samples.Equal(told[i], kept[i]) {
				t.Errorf("%s: a table that was told became %v, and was %v", what, told[i], kept[i])
			}
		}
		b.stands(t, what)
		spoilt := b.r.Table()
		samples.Spoil(spoilt.Rows)
		spoilt.Rows = append(spoilt.Rows, samples.Row(3))
		b.stands(t, what+", spoilt")
	}
	look("opened")
	for _, o := range []api.Op{samples.AdmitsSeven(15, 1, 4, 4), samples.Resizes(10, 3), samples.TurnsTo(3), samples.Removes(10), samples.Removes(20)} {
		b.does(t, "do", o, nil)
		look("done")
		b.denies(t, "do", samples.Removes(500), nil, api.ErrNone)
		look("refused")
	}
	b.snapshots(t, "snapshot")
	look("snapshot")
	b.reopens(t, "open")
	look("opened again")
	b.fails(t, "fails", 2, func() api.Errno { return b.r.Do(samples.TurnsTo(0), nil) })
	b.isBad(t, "fails")
}

func TestSeveralRegistries(t *testing.T) { // R4
	a, b := holding(t, 2, 3, samples.Set(1, 15, 1, 4, 4)), holding(t, 1, 5, samples.Set(2, 8, 1, 8, 8))
	a.does(t, "a", samples.AdmitsSeven(15, 1, 4, 4), nil)
	b.stands(t, "b")
	a.fails(t, "a", 1, func() api.Errno { return a.r.Do(samples.TurnsTo(0), nil) })
	b.does(t, "b", samples.TurnsTo(0), nil)
	b.snapshots(t, "b")
	a.isBad(t, "a")
	a.reopens(t, "a")
	b.stands(t, "b")
	b.reopens(t, "b")
}

func TestTheDiskLosesItsSectors(t *testing.T) { // P1: a disk's owner may do so
	for _, call := range []func(r *Registry) api.Errno{func(r *Registry) api.Errno { return r.Do(samples.TurnsTo(1), nil) }, (*Registry).Snapshot} {
		x := samples.Set(3, 15, 1, 4, 4)
		b := holding(t, 2, 3, x)
		*b.d = disk.Disk{}
		if err := call(b.r); err != api.ErrIO || b.r.Good() || b.r.Left() != 0 {
			t.Errorf("no sectors: error %d, good: %t, Left %d", err, b.r.Good(), b.r.Left())
		}
		has(t, "no sectors", b.r, x)
		refusesBoth(t, "no sectors", b.d, 2)
	}
}
