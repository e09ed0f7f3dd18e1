package registry

import (
	"slices"
	"testing"

	"horarium/api"
	"horarium/disk"
	"horarium/journal"
	"horarium/samples"
)

// begun is a registry with its disk, and what both must have: a snapshot, and ops behind it.
type begun struct {
	d    *disk.Disk
	k    int
	r    *Registry
	snap api.Table
	ops  []api.Op
	// set is what the ops make of the snapshot.
	set api.Table
}

// holding is a registry of that set, that was opened on a disk of slots of k sectors and a log of n, behind these ops.
func holding(t *testing.T, k, n int, snap api.Table, l ...api.Op) *begun {
	t.Helper()
	d := laid(t, k, n, bytesOf(t, snap), written(t, l...)...)
	set := after(t, snap, l...)
	r := opens(t, "opened", d, k, set, n-len(l))
	return &begun{d: d, k: k, r: r, snap: snap, ops: l, set: set}
}

// left is how many more ops there is room for, if it is good.
func (b *begun) left() int {
	return b.d.Len() - 2*b.k - len(b.ops)
}

// has looks at what the disk's journal has: that snapshot, and just those ops. Of a disk whose writes all lie there nothing changes by that.
func (b *begun) has(t *testing.T, what string) {
	t.Helper()
	_, found, err := journal.Open(b.d, b.k)
	if want := written(t, b.ops...); err != api.OK || found.Data != bytesOf(t, b.snap) || !slices.Equal(found.Ops, want) {
		t.Errorf("%s: the journal has %q, error %d, want %q, %q", what, found, err, bytesOf(t, b.snap), want)
	}
}

// stands looks at all that the registry tells, and at its disk.
func (b *begun) stands(t *testing.T, what string) {
	t.Helper()
	stands(t, what, b.r, b.set, b.left())
	if b.d.Open() != 0 {
		t.Errorf("%s: %d writes are open", what, b.d.Open())
	}
	b.has(t, what)
}

// asks looks at what Do tells of o and extra, how many operations it takes, and that extra stays as it is, as does all that lies about it.
func (b *begun) asks(t *testing.T, what string, o api.Op, extra []api.Task, want api.Errno, operations int) {
	t.Helper()
	more, all := samples.Amid(extra)
	kept := slices.Clone(all)
	err := api.OK
	just := samples.Takes(b.d, operations, func() { err = b.r.Do(o, more) })
	if err != want || !just {
		t.Errorf("%s: Do(%+v, %d tasks) of %v: error %d, want %d; %d operations: %t", what, o, len(extra), b.set, err, want, operations, just)
	}
	if !slices.Equal(all, kept) {
		t.Errorf("%s: Do(%+v, %d tasks) changed these", what, o, len(extra))
	}
	clear(all)
}

// does looks at an op that must be done.
func (b *begun) does(t *testing.T, what string, o api.Op, extra []api.Task) {
	t.Helper()
	b.asks(t, what, o, extra, api.OK, 2)
	b.ops = append(slices.Clone(b.ops), o)
	b.set = after(t, b.set, o)
	b.stands(t, what)
}

// denies looks at an op that must be refused: it leaves all as it was.
func (b *begun) denies(t *testing.T, what string, o api.Op, extra []api.Task, want api.Errno) {
	t.Helper()
	was := samples.Sectors(b.d)
	b.asks(t, what, o, extra, want, 0)
	stands(t, what, b.r, b.set, b.left())
	if !slices.Equal(samples.Sectors(b.d), was) {
		t.Errorf("%s: %+v was refused and changed the disk", what, o)
	}
}

// snapshots looks at a Snapshot that must be done: with it, there is all room.
func (b *begun) snapshots(t *testing.T, what string) {
	t.Helper()
	err := api.OK
	just := samples.Takes(b.d, b.k+1, func() { err = b.r.Snapshot() })
	if err != api.OK || !just {
		t.Errorf("%s: Snapshot of %v: error %d, want 0; %d operations: %t", what, b.set, err, b.k+1, just)
	}
	b.snap, b.ops = b.set, nil
	b.stands(t, what)
}

// deniesSnapshot looks at a Snapshot that must be refused: it leaves all as it was.
func (b *begun) deniesSnapshot(t *testing.T, what string, want api.Errno) {
	t.Helper()
	was, err := samples.Sectors(b.d), api.OK
	none := samples.Takes(b.d, 0, func() { err = b.r.Snapshot() })
	if err != want || !none {
		t.Errorf("%s: Snapshot: error %d, want %d; no operations: %t", what, err, want, none)
	}
	stands(t, what, b.r, b.set, b.left())
	if !slices.Equal(samples.Sectors(b.d), was) {
		t.Errorf("%s: a Snapshot was refused and changed the disk", what)
	}
}

// fails lets the n-th operation of a call fail, which must be told.
func (b *begun) fails(t *testing.T, what string, n int, call func() api.Errno) {
	t.Helper()
	b.d.Fail(n)
	if err := call(); err != api.ErrIO {
		t.Fatalf("%s, operation %d: error %d, want 18", what, n, err)
	}
	b.d.Fail(0)
}

// isBad looks at a registry that is not good: it still tells its set, and takes nothing, whatever that is.
func (b *begun) isBad(t *testing.T, what string) {
	t.Helper()
	was, open := samples.Sectors(b.d), b.d.Open()
	for range 2 {
		for _, o := range append(samples.OneOfEach(), api.Op{}, api.Op{Kind: -1}, samples.Removes(-1), samples.Removes(1023), samples.TurnsTo(4), samples.AdmitsSeven(15, 9, 9, 9)) {
			for _, extra := range [][]api.Task{nil, samples.Small(1), samples.Small(17), samples.Named(1, 1, 1), samples.Wrong()} {
				b.asks(t, what, o, extra, api.ErrIO, 0)
			}
		}
		want := api.ErrIO
		if len(bytesOf(t, b.set)) > 43*b.k {
			want = api.ErrArg
		}
		if err := b.r.Snapshot(); err != want {
			t.Errorf("%s: Snapshot: error %d, want %d", what, err, want)
		}
		has(t, what, b.r, b.set)
		if b.r.Good() || b.r.Left() != 0 {
			t.Errorf("%s: good: %t, Left %d, want false, 0", what, b.r.Good(), b.r.Left())
		}
	}
	if b.d.Open() != open || !slices.Equal(samples.Sectors(b.d), was) {
		t.Errorf("%s: a registry that is not good changed its disk", what)
	}
}

// reopens looks at what the disk's registry has, behind a crash too, and goes on with that.
func (b *begun) reopens(t *testing.T, what string) {
	t.Helper()
	opens(t, what, b.d, b.k, b.set, b.left())
	b.d.Crash(nil)
	b.r = opens(t, what+", behind a crash", b.d, b.k, b.set, b.left())
}
