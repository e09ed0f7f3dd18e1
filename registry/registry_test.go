package registry

import (
	"math"
	"reflect"
	"slices"
	"testing"

	"horarium/api"
	"horarium/disk"
	"horarium/journal"
	"horarium/judge"
	"horarium/ops"
	"horarium/samples"
	"horarium/table"
)

// bytesOf are those of a table that may be.
func bytesOf(t *testing.T, x api.Table) string {
	t.Helper()
	s, err := table.Bytes(x)
	if err != api.OK {
		t.Fatalf("%v has no bytes: error %d", x, err)
	}
	return s
}

// written are the bytes of each of these ops.
func written(t *testing.T, l ...api.Op) []string {
	t.Helper()
	var all []string
	for _, o := range l {
		s, err := ops.Bytes(o)
		if err != api.OK {
			t.Fatalf("%+v has no bytes: error %d", o, err)
		}
		all = append(all, s)
	}
	return all
}

// after is what these ops make of x.
func after(t *testing.T, x api.Table, l ...api.Op) api.Table {
	t.Helper()
	for _, o := range l {
		next, err := table.Apply(x, o)
		if err != api.OK {
			t.Fatalf("%+v can't be applied to %v: error %d", o, x, err)
		}
		x = next
	}
	return x
}

// laid is a disk of slots of k sectors and a log of n, with a journal of that snapshot and these records.
func laid(t *testing.T, k, n int, data string, records ...string) *disk.Disk {
	t.Helper()
	d := disk.New(2*k + n)
	j, err := journal.Format(d, k, data)
	if err != api.OK {
		t.Fatalf("a journal of %d bytes, k %d: error %d", len(data), k, err)
	}
	for _, s := range records {
		if err := j.Append(s); err != api.OK {
			t.Fatalf("a record of %d bytes: error %d", len(s), err)
		}
	}
	return d
}

// has looks at the set that Table tells, and that it is the caller's own.
func has(t *testing.T, what string, r *Registry, want api.Table) {
	t.Helper()
	told, again := r.Table(), r.Table()
	if !samples.Equal(told, want) {
		t.Errorf("%s: the table %v, want %v", what, told, want)
	}
	samples.Spoil(told.Rows)
	if !samples.Equal(again, want) || !samples.Equal(r.Table(), want) {
		t.Errorf("%s: the table hangs on what was told of it: %v, and then %v, want %v", what, again, r.Table(), want)
	}
	samples.Spoil(again.Rows)
}

// stands looks at a registry that is good.
func stands(t *testing.T, what string, r *Registry, set api.Table, left int) {
	t.Helper()
	has(t, what, r, set)
	if !r.Good() || r.Left() != left {
		t.Errorf("%s: good: %t, Left %d, want true, %d", what, r.Good(), r.Left(), left)
	}
}

// formats looks at a Format that must be fine.
func formats(t *testing.T, what string, d *disk.Disk, k int) *Registry {
	t.Helper()
	r, err := Format(d, k)
	if r == nil || err != api.OK {
		t.Fatalf("%s: Format(a disk of %d, %d): a registry: %t, error %d", what, d.Len(), k, r != nil, err)
	}
	stands(t, what, r, api.Table{}, d.Len()-2*k)
	return r
}

// opens looks at an Open that must be fine, and at one more.
func opens(t *testing.T, what string, d *disk.Disk, k int, set api.Table, left int) *Registry {
	t.Helper()
	var r *Registry
	for range 2 {
		var err api.Errno
		r, err = Open(d, k)
		if r == nil || err != api.OK {
			t.Fatalf("%s: Open(a disk of %d, %d): a registry: %t, error %d", what, d.Len(), k, r != nil, err)
		}
		stands(t, what, r, set, left)
	}
	if err := judge.Fits(r.Table()); err != api.OK {
		t.Errorf("%s: %v does not fit: error %d", what, r.Table(), err)
	}
	return r
}

// refusesOpen looks at an Open that must be that error: there is no registry, and on a disk of which no write is open nothing changes.
func refusesOpen(t *testing.T, what string, d *disk.Disk, k int, want api.Errno) {
	t.Helper()
	was := samples.Sectors(d)
	for range 2 {
		if r, err := Open(d, k); r != nil || err != want {
			t.Errorf("%s: Open(a disk of %d, %d): a registry: %t, error %d, want none, error %d", what, d.Len(), k, r != nil, err, want)
		}
	}
	if !slices.Equal(samples.Sectors(d), was) {
		t.Errorf("%s: Open(a disk of %d, %d) changed its sectors", what, d.Len(), k)
	}
}

// refusesBoth looks at a disk that may not be with that k: it is not even used.
func refusesBoth(t *testing.T, what string, d *disk.Disk, k int) {
	t.Helper()
	for _, call := range []func(d *disk.Disk, k int) (*Registry, api.Errno){Format, Open} {
		was := samples.Sectors(d)
		r, err := (*Registry)(nil), api.OK
		none := samples.Takes(d, 0, func() { r, err = call(d, k) })
		if r != nil || err != api.ErrArg || !none {
			t.Errorf("%s: a disk of %d, %d: a registry: %t, error %d, want none, error 1; no operations: %t", what, d.Len(), k, r != nil, err, none)
		}
		if !slices.Equal(samples.Sectors(d), was) {
			t.Errorf("%s: a disk of %d, %d: its sectors changed", what, d.Len(), k)
		}
	}
}

func TestDisksThatMayBe(t *testing.T) { // P20.1
	for _, k := range []int{1, 2, 3, 9, 63, 64} {
		for _, n := range []int{1, 2, 64, 1024 - 2*k} {
			d := disk.New(2*k + n)
			refusesOpen(t, "never written", d, k, api.ErrNone)
			b := &begun{d: d, k: k, r: formats(t, "format", d, k)}
			b.stands(t, "format")
			b.reopens(t, "format")
		}
	}
}

func TestDisksThatMayNotBe(t *testing.T) { // P20.1
	for _, k := range []int{1, 2, 3, 9, 63, 64} {
		for _, n := range []int{1, 2, k, 2*k - 1, 2 * k} {
			if n <= 2*k {
				refusesBoth(t, "too small", disk.New(n), k)
			}
		}
	}
	for _, d := range []*disk.Disk{nil, disk.New(0), disk.New(1025), {}} {
		for _, k := range []int{1, 2, 64, 0, -1, 65, math.MinInt, math.MaxInt} {
			refusesBoth(t, "no disk", d, k)
		}
	}
}

func TestSlotsThatMayNotBe(t *testing.T) { // P20.1, P1, R5
	for _, n := range []int{1, 2, 3, 130, 131, 1024} {
		d := disk.New(n)
		if n > 2 {
			formats(t, "format", d, 1)
		}
		for _, k := range []int{0, -1, -2, -64, 65, 66, 128, 512, 1 << 31, 1 << 32, 1 << 61, 1 << 62, 1<<62 + 1, -1 << 62, math.MaxInt, math.MinInt, math.MinInt + 1} {
			refusesBoth(t, "no k", d, k)
		}
	}
}

func TestARegistryHasACallOfEachNameOfTheChapterAlone(t *testing.T) {
	// By the journal's own calls, a caller could part it from the set.
	var names []string
	for m := range reflect.TypeFor[*Registry]().Methods() {
		names = append(names, m.Name)
	}
	if want := []string{"Do", "Good", "Left", "Snapshot", "Table"}; !slices.Equal(names, want) {
		t.Errorf("a registry has %v, want %v", names, want)
	}
	for _, f := range reflect.VisibleFields(reflect.TypeFor[Registry]()) {
		if f.IsExported() {
			t.Errorf("a registry's field %s is its callers' too", f.Name)
		}
	}
}

// TestNoRegistry: a nil one, and a zero one, of which the chapter says nothing: it has no disk, and is as a nil one.
func TestNoRegistry(t *testing.T) { // the chapter's last line, P1, R1
	for _, r := range []*Registry{nil, {}} {
		for range 2 {
			for _, o := range append(samples.OneOfEach(), api.Op{}, api.Op{Kind: 5}, samples.Removes(-1), samples.TurnsTo(4)) {
				for _, extra := range samples.Extras() {
					if err := r.Do(o, extra); err != api.ErrArg {
						t.Errorf("Do(%+v): error %d, want 1", o, err)
					}
				}
			}
			if err := r.Snapshot(); err != api.ErrArg {
				t.Errorf("Snapshot: error %d, want 1", err)
			}
			if x := r.Table(); len(x.Rows) != 0 || x.Mode != 0 || r.Good() || r.Left() != 0 {
				t.Errorf("Table %v, good: %t, Left %d, want nothing", x, r.Good(), r.Left())
			}
		}
	}
}
