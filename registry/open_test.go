package registry

import (
	"fmt"
	"math"
	"slices"
	"testing"

	"horarium/api"
	"horarium/disk"
	"horarium/frame"
	"horarium/journal"
	"horarium/judge"
	"horarium/ops"
	"horarium/samples"
	"horarium/table"
)

// last is the greatest epoch.
const last = math.MaxUint64

// cells is a disk of 7 sectors, with these cells from sector at on.
func cells(t *testing.T, at int, l ...api.Cell) *disk.Disk {
	t.Helper()
	d := disk.New(7)
	for i, c := range l {
		s, err := frame.Make(c)
		if err != api.OK || d.Write(at+i, s) != api.OK {
			t.Fatalf("%v is no sector: error %d", c, err)
		}
	}
	d.Flush()
	return d
}

// kind is a disk of 7 sectors, for slots of 2, by what it has. Each one is made anew.
type kind struct {
	name string
	make func(t *testing.T) *disk.Disk
}

func kinds() []kind {
	set, o := samples.Set(2, 15, 1, 4, 4), samples.AdmitsSeven(15, 1, 8, 8)
	return []kind{
		{"nothing", func(t *testing.T) *disk.Disk { return disk.New(7) }},
		{"an empty set", func(t *testing.T) *disk.Disk { return laid(t, 2, 3, bytesOf(t, api.Table{})) }},
		{"a set", func(t *testing.T) *disk.Disk { return laid(t, 2, 3, bytesOf(t, set)) }},
		{"a set and ops", func(t *testing.T) *disk.Disk {
			return laid(t, 2, 3, bytesOf(t, set), written(t, o, samples.TurnsTo(1))...)
		}},
		{"a set and as many ops as there is room for", func(t *testing.T) *disk.Disk {
			return laid(t, 2, 3, bytesOf(t, set), written(t, o, samples.TurnsTo(1), samples.Removes(7))...)
		}},
		{"a second snapshot", func(t *testing.T) *disk.Disk {
			b := holding(t, 2, 3, set, o)
			b.snapshots(t, "second")
			b.does(t, "second", samples.Removes(7), nil)
			return b.d
		}},
		{"no set", func(t *testing.T) *disk.Disk { return laid(t, 2, 3, "no set", "no op") }},
		{"a set and no op", func(t *testing.T) *disk.Disk { return laid(t, 2, 3, bytesOf(t, set), "no op") }},
		{"half a snapshot", func(t *testing.T) *disk.Disk { return cells(t, 0, api.Cell{Epoch: 3}) }},
		{"ops alone", func(t *testing.T) *disk.Disk { return cells(t, 4, api.Cell{Epoch: 5, Payload: written(t, o)[0]}) }},
		{"the last epoch", func(t *testing.T) *disk.Disk {
			return cells(t, 0, api.Cell{Epoch: last, Payload: bytesOf(t, set)}, api.Cell{Epoch: last, Number: 1})
		}},
		{"half of the last epoch", func(t *testing.T) *disk.Disk { return cells(t, 2, api.Cell{Epoch: last}) }},
		{"an open op", func(t *testing.T) *disk.Disk {
			b := holding(t, 2, 3, set)
			b.fails(t, "open", 2, func() api.Errno { return b.r.Do(o, nil) })
			return b.d
		}},
		{"an open snapshot", func(t *testing.T) *disk.Disk {
			b := holding(t, 2, 3, set, o)
			b.fails(t, "open", 3, func() api.Errno { return b.r.Snapshot() })
			return b.d
		}},
		{"a torn snapshot", func(t *testing.T) *disk.Disk {
			b := holding(t, 2, 3, set, o)
			b.fails(t, "torn", 3, func() api.Errno { return b.r.Snapshot() })
			b.d.Crash([]api.Fate{{Kind: 1}, {Kind: 2, At: 50}})
			return b.d
		}},
	}
}

// alike looks at two disks that must be the same: in what lies there, in what is open, and in how often they were read.
func alike(t *testing.T, what string, a, b *disk.Disk) {
	t.Helper()
	if a.Open() != b.Open() || a.Reads() != b.Reads() {
		t.Errorf("%s: %d open, %d reads, want %d, %d", what, a.Open(), a.Reads(), b.Open(), b.Reads())
	}
	if !slices.Equal(samples.Sectors(a), samples.Sectors(b)) {
		t.Errorf("%s: other sectors than the journal's", what)
	}
}

// TestFormatIsThatOfTheJournal: of disks of each kind, with each operation failing, up to one that is none of it any more.
func TestFormatIsThatOfTheJournal(t *testing.T) { // P20.1
	told := map[api.Errno]int{}
	for _, x := range kinds() {
		for n := 0; n <= 8; n++ {
			what := fmt.Sprintf("%s, operation %d", x.name, n)
			d, twin := x.make(t), x.make(t)
			d.Fail(n)
			twin.Fail(n)
			r, err := Format(d, 2)
			// The empty table of mode 0 has no mode and no rows: each number is a byte 00.
			_, want := journal.Format(twin, 2, "\x00\x00")
			if err != want || (r == nil) != (want != api.OK) {
				t.Errorf("%s: a registry: %t, error %d, want error %d", what, r != nil, err, want)
			}
			told[err]++
			d.Fail(0)
			twin.Fail(0)
			alike(t, what, d, twin)
			if err == api.OK {
				b := &begun{d: d, k: 2, r: r}
				b.stands(t, what)
				b.reopens(t, what)
			}
		}
	}
	// It reads 4 sectors, writes 2, and flushes: so many of them fail of each kind, but for two of the last epoch, of which none is written.
	if n := len(kinds()); told[api.ErrIO] != 7*(n-2)+4*2 || told[api.ErrOver] != 5*2 || told[api.OK] != 2*(n-2) {
		t.Errorf("errors of Format: %v", told)
	}
}

// TestOpenWithEachOperationFailing: it flushes, and reads slots, and the log up to the first sector that is no record.
func TestOpenWithEachOperationFailing(t *testing.T) { // P20.1
	for _, x := range kinds() {
		whole := 0
		_, _, want := journal.Open(x.make(t), 2)
		for n := 1; ; n++ {
			what := fmt.Sprintf("%s, operation %d", x.name, n)
			d, twin := x.make(t), x.make(t)
			d.Fail(n)
			twin.Fail(n)
			r, err := Open(d, 2)
			_, _, must := journal.Open(twin, 2)
			d.Fail(0)
			twin.Fail(0)
			alike(t, what, d, twin)
			if must == want && want != api.ErrIO {
				whole = n - 1
				break
			}
			if r != nil || err != api.ErrIO {
				t.Errorf("%s: a registry: %t, error %d, want none, error 18", what, r != nil, err)
			}
		}
		if whole < 5 || whole > 8 {
			t.Errorf("%s: %d operations", x.name, whole)
		}
	}
}

func TestOpenOfADiskWithoutASnapshot(t *testing.T) { // P20.1
	for _, x := range kinds() {
		switch x.name {
		case "nothing", "half a snapshot", "ops alone", "half of the last epoch":
			refusesOpen(t, x.name, x.make(t), 2, api.ErrNone)
		}
	}
}

// toldOf is what Open must tell of a journal that has these, as the chapter's words tell it.
func toldOf(data string, records []string) (api.Table, api.Errno) {
	x, err := table.Read(data)
	if err != api.OK {
		return api.Table{}, api.ErrForm
	}
	for _, s := range records {
		o, err := ops.Read(s)
		if err == api.OK {
			x, err = table.Apply(x, o)
		}
		if err != api.OK {
			return api.Table{}, api.ErrForm
		}
	}
	if err := judge.Fits(x); err != api.OK {
		return api.Table{}, err
	}
	return x, api.OK
}

// finds looks at what Open tells of a journal that has these.
func finds(t *testing.T, k int, data string, records ...string) api.Errno {
	t.Helper()
	what := fmt.Sprintf("%q, %q", data, records)
	d := laid(t, k, len(records)+1, data, records...)
	x, err := toldOf(data, records)
	if err != api.OK {
		refusesOpen(t, what, d, k, err)
		return err
	}
	was := samples.Sectors(d)
	opens(t, what, d, k, x, 1)
	if !slices.Equal(samples.Sectors(d), was) {
		t.Errorf("%s: Open changed the disk", what)
	}
	return api.OK
}

// must looks at what Open tells of a journal that has these, and that it is just that error.
func must(t *testing.T, want api.Errno, data string, records ...string) {
	t.Helper()
	if err := finds(t, 9, data, records...); err != want {
		t.Errorf("%q, %q: error %d, want %d", data, records, err, want)
	}
}

func TestOpenOfEachSet(t *testing.T) { // P20.1
	for _, x := range append(samples.Fitting(), samples.Set(1, 15, 1, 4, 4, 6, 1, 5, 5)) {
		for mode := range 4 {
			x.Mode = mode
			must(t, api.OK, bytesOf(t, x))
		}
	}
	x := samples.Set(3, 15, 1, 4, 4, 6, 2, 8, 8)
	x.Rows[0].Server, x.Rows[0].Task.ID, x.Rows[1].Task.ID = true, 0, 1023
	must(t, api.OK, bytesOf(t, x))
}

func TestOpenOfNoTablesBytes(t *testing.T) { // P20.1
	for _, s := range []string{"", "\x00", "\x00\x00\x00", "\x01", "\x01\x04\x00", "\x00\x01\x01", "\x00\x01\x11", "no set", "\xff\xff", "\x01\x00\x00"} {
		must(t, api.ErrForm, s)
		must(t, api.ErrForm, s, "no op")
		must(t, api.ErrForm, s, written(t, samples.OneOfEach()...)...)
	}
	x := samples.Set(2, 15, 1, 4, 4, 6, 1, 8, 8)
	whole := bytesOf(t, x)
	for n := range len(whole) {
		must(t, api.ErrForm, whole[:n])
		must(t, api.ErrForm, whole[:n], written(t, samples.TurnsTo(1))...)
	}
	must(t, api.ErrForm, whole+"\x00")
	must(t, api.ErrForm, whole+whole)
	for _, s := range written(t, samples.OneOfEach()...) {
		must(t, api.ErrForm, s)
	}
}

// TestOpenOfBytesOfWhichOneIsAnother: they are those of another table that may be, or of none.
func TestOpenOfBytesOfWhichOneIsAnother(t *testing.T) { // P20.1
	whole := bytesOf(t, samples.Set(1, 15, 1<<19, 1<<20, 1<<20, 2, 1<<19, 1<<20, 1<<20))
	told := map[api.Errno]int{}
	for s := range samples.Turned(whole) {
		told[finds(t, 1, s)]++
	}
	for _, err := range []api.Errno{api.OK, api.ErrForm, api.ErrLoad, api.ErrOver} {
		if told[err] < 3 {
			t.Errorf("just %d tables of error %d: too few", told[err], err)
		}
	}
	o := samples.AdmitsSeven(3, 1, 4, 4)
	for s := range samples.Turned(written(t, o)[0]) {
		told[finds(t, 1, "\x00\x00", s)]++
		told[finds(t, 9, bytesOf(t, samples.Set(0, 15, 3, 4, 4)), s)]++
	}
}

// wrongOps are records that can't be replayed: such as are no op's bytes, and such as do not apply to a set of rows 10 and 20 alone, and of no more than 16 rows.
func wrongOps(t *testing.T) []string {
	l := []string{"", "\x00", "\x01\x05", "no op", "\x01\x02\x01\x0a\x00", "\x01\x02\x01", "\x01\x04\x01\x04", "\x00\x00"}
	return append(l, written(t,
		samples.Removes(7), samples.Removes(0), samples.Removes(1023), samples.Resizes(7, 1), samples.Resizes(10, 5), samples.Resizes(10, 1<<31),
		samples.Admits(api.Task{ID: 10, C: 1, D: 1, T: 1, Modes: 1}), samples.Serves(api.Task{ID: 20, C: 1, D: 128, T: 128, Modes: 15}))...)
}

func TestOpenOfRecordsThatCantBeReplayed(t *testing.T) { // P20.1
	x := samples.Set(1, 15, 1, 4, 4, 6, 1, 5, 5)
	good := written(t, samples.TurnsTo(0), samples.Resizes(20, 2), samples.TurnsTo(3), samples.Resizes(10, 2), samples.TurnsTo(2))
	must(t, api.OK, bytesOf(t, x), good...)
	// It is told ahead of a table that does not fit, too.
	unfit := samples.Set(1, 15, 4, 4, 4, 6, 5, 5, 5)
	must(t, api.ErrLoad, bytesOf(t, unfit), written(t, samples.TurnsTo(0))...)
	for _, bad := range wrongOps(t) {
		must(t, api.ErrForm, bytesOf(t, x), bad)
		must(t, api.ErrForm, bytesOf(t, unfit), bad)
		for at := range len(good) + 1 {
			must(t, api.ErrForm, bytesOf(t, x), slices.Insert(slices.Clone(good), at, bad)...)
			must(t, api.ErrForm, bytesOf(t, unfit), slices.Insert(slices.Clone(good), at, bad)...)
		}
	}
	full := bytesOf(t, samples.Smalls(0, 15, 16, 1, 0))
	more := written(t, samples.AdmitsSeven(1, 1, 128, 128))[0]
	room := written(t, samples.Removes(160))[0]
	must(t, api.ErrForm, full, more)
	must(t, api.ErrForm, full, more, room)
	must(t, api.OK, full, room, more)
	must(t, api.ErrForm, full, room, more, more)
	must(t, api.ErrForm, full, room, more, room)
}

func TestOpenOfASetThatDoesNotFit(t *testing.T) { // P20.1
	for _, m := range append(samples.TooMuch(), samples.TooLong()...) {
		for mode := range 4 {
			for own := range 4 {
				// It does not fit in this mode, be that its own or another one.
				x := samples.Set(own, m.In(1<<mode)...)
				must(t, m.Err, bytesOf(t, x))
				must(t, m.Err, bytesOf(t, x), written(t, samples.TurnsTo(mode))...)
				must(t, m.Err, bytesOf(t, x), written(t, samples.TurnsTo((mode+1)%4), samples.AdmitsSeven(15, 1, 128, 128), samples.Removes(7))...)
				// By its ops alone.
				must(t, m.Err, bytesOf(t, api.Table{Mode: own}), written(t, admitted(x)...)...)
				// What it was ahead of its last op does not count.
				must(t, api.OK, bytesOf(t, samples.Set(own, append(m.In(1<<mode), 15, 1, 2, 2)...)), written(t, samples.Removes(10), samples.Removes(20))...)
				must(t, api.OK, bytesOf(t, api.Table{Mode: own}), written(t, append(admitted(x), samples.Removes(20), samples.Removes(10))...)...)
			}
		}
	}
	// Of two modes that do not fit, the first one counts.
	must(t, api.ErrLoad, bytesOf(t, samples.Set(3, 2, 5, 5, 5, 2, 1, 5, 5, 4, 1, 1, samples.TooGreat)))
	must(t, api.ErrOver, bytesOf(t, samples.Set(3, 4, 5, 5, 5, 4, 1, 5, 5, 2, 1, 1, samples.TooGreat)))
}

// admitted are ops that make x of an empty set.
func admitted(x api.Table) []api.Op {
	var l []api.Op
	for _, r := range x.Rows {
		l = append(l, api.Op{Kind: api.OpAdmit, Task: r.Task, Server: r.Server})
	}
	return l
}

// TestOpenDoesAllOpsInTheirOrder: of which each other order has another set, or none.
func TestOpenDoesAllOpsInTheirOrder(t *testing.T) { // P20.1
	one := func(id int, c int64) api.Op { return samples.Admits(api.Task{ID: id, C: c, D: 16, T: 16, Modes: 15}) }
	l := []api.Op{one(5, 1), samples.Resizes(5, 2), one(3, 1), samples.TurnsTo(2), samples.Removes(5), one(5, 3), samples.TurnsTo(1), samples.Resizes(3, 4), one(4, 1), samples.Resizes(4, 2)}
	x := api.Table{Mode: 3}
	for n := range len(l) + 1 {
		b := holding(t, 1, len(l), x, l[:n]...)
		b.stands(t, fmt.Sprintf("%d ops", n))
	}
	want := api.Table{Mode: 1, Rows: []api.Row{{Task: one(3, 4).Task}, {Task: one(4, 2).Task}, {Task: one(5, 3).Task}}}
	has(t, "all ops", holding(t, 1, len(l), x, l...).r, want)
	for at := 1; at < len(l); at++ {
		other := slices.Clone(l)
		other[at-1], other[at] = l[at], l[at-1]
		finds(t, 1, bytesOf(t, x), written(t, other...)...)
	}
}

func TestOpenOfManyDrawnJournals(t *testing.T) { // P20.1
	draw := samples.Drawing(20)
	told := map[api.Errno]int{}
	for range 3000 {
		x := samples.DrawnSet(draw)
		now, records := x, []string(nil)
		for range draw(12) {
			o := samples.DrawnOp(draw)
			next, err := table.Apply(now, o)
			if err != api.OK && draw(20) > 0 {
				continue
			}
			now = next
			s, _ := ops.Bytes(o)
			records = append(records, s)
		}
		told[finds(t, 9, bytesOf(t, x), records...)]++
	}
	for _, err := range []api.Errno{api.OK, api.ErrForm, api.ErrLoad, api.ErrOver} {
		if told[err] < 30 {
			t.Errorf("just %d journals of error %d: too few", told[err], err)
		}
	}
}
