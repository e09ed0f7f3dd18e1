package wal

import (
	"fmt"
	"math"
	"slices"
	"strings"
	"testing"

	"horarium/api"
	"horarium/disk"
	"horarium/frame"
)

const last = math.MaxUint64

// epochs are those that a log may be of: the least, the greatest, and where bytes carry.
func epochs() []uint64 {
	return []uint64{1, 2, 255, 256, 1 << 32, 1<<63 - 1, 1 << 63, last - 1, last}
}

// mixed is a text of n bytes of all kinds, another one for each seed, the same in every run.
func mixed(seed, n int) string {
	b := make([]byte, n)
	x := uint64(88172645463325252) + uint64(seed)
	for i := range b {
		x = drawn(x)
		b[i] = byte(x >> 24)
	}
	return string(b)
}

// drawn is the number behind x in a row that looks like chance, and is none.
func drawn(x uint64) uint64 {
	x ^= x << 13
	x ^= x >> 7
	return x ^ x<<17
}

// texts are n texts of lengths from 0 to 43, other ones for each seed.
func texts(seed, n int) []string {
	l := make([]string, n)
	for i := range l {
		l[i] = mixed(seed*1000+i, (seed+i*7)%44)
	}
	return l
}

func made(t *testing.T, d *disk.Disk, at, n int) *Log {
	t.Helper()
	l := New(d, at, n)
	if l == nil {
		t.Fatalf("New(a disk of %d, %d, %d): nil", d.Len(), at, n)
	}
	return l
}

// alone are a disk of n sectors, and a log of all of them.
func alone(t *testing.T, n int) (*disk.Disk, *Log) {
	t.Helper()
	d := disk.New(n)
	return d, made(t, d, 0, n)
}

func sector(t *testing.T, epoch, number uint64, payload string) string {
	t.Helper()
	s, err := frame.Make(api.Cell{Payload: payload, Epoch: epoch, Number: number})
	if err != api.OK {
		t.Fatalf("Make of %d bytes: error %d", len(payload), err)
	}
	return s
}

// sectorsOf are the sectors of records of that epoch, from number 0 on.
func sectorsOf(t *testing.T, epoch uint64, records ...string) []string {
	t.Helper()
	var l []string
	for i, s := range records {
		l = append(l, sector(t, epoch, uint64(i), s))
	}
	return l
}

// blank is what a sector says that was never written.
func blank() string {
	return strings.Repeat("\x00", 64)
}

// lies puts sectors on the disk, from at on, and flushes.
func lies(t *testing.T, d *disk.Disk, at int, sectors ...string) {
	t.Helper()
	for i, s := range sectors {
		if err := d.Write(at+i, s); err != api.OK {
			t.Fatalf("sector %d, %q: error %d", at+i, s, err)
		}
	}
	if err := d.Flush(); err != api.OK {
		t.Fatalf("flush: error %d", err)
	}
}

// all is what all sectors of the disk say.
func all(t *testing.T, d *disk.Disk) []string {
	t.Helper()
	l := make([]string, d.Len())
	for at := range l {
		s, err := d.Read(at)
		if err != api.OK {
			t.Fatalf("sector %d: error %d", at, err)
		}
		l[at] = s
	}
	return l
}

// has looks at what all sectors of the disk say: these, and nothing in the others.
func has(t *testing.T, what string, d *disk.Disk, want ...string) {
	t.Helper()
	for at, got := range all(t, d) {
		must := blank()
		if at < len(want) {
			must = want[at]
		}
		if got != must {
			t.Errorf("%s: sector %d: %q, want %q", what, at, got, must)
		}
	}
}

// stands looks at how many records an open log has, and how many more it may have.
func stands(t *testing.T, what string, l *Log, records, left int) {
	t.Helper()
	if l.Len() != records || l.Left() != left {
		t.Errorf("%s: Len %d, Left %d, want %d, %d", what, l.Len(), l.Left(), records, left)
	}
}

// isShut looks at a log that is not open: it has no records and no room, and takes none.
func isShut(t *testing.T, what string, l *Log) {
	t.Helper()
	stands(t, what, l, 0, 0)
	for _, s := range []string{"", "a", mixed(1, 43)} {
		appends(t, what, l, s, api.ErrState)
	}
	appends(t, what, l, mixed(1, 44), api.ErrArg)
	stands(t, what, l, 0, 0)
}

// tells looks at a Scan that must tell just these records.
func tells(t *testing.T, what string, l *Log, epoch uint64, want ...string) {
	t.Helper()
	if got, err := l.Scan(epoch); !slices.Equal(got, want) || err != api.OK {
		t.Errorf("%s: Scan(%d): %q, error %d, want %q", what, epoch, got, err, want)
	}
	if l.Len() != len(want) {
		t.Errorf("%s: Scan(%d): Len %d, want %d", what, epoch, l.Len(), len(want))
	}
}

// refusesScan looks at a Scan that must be an error and tell nothing.
func refusesScan(t *testing.T, what string, l *Log, epoch uint64, want api.Errno) {
	t.Helper()
	if got, err := l.Scan(epoch); len(got) != 0 || err != want {
		t.Errorf("%s: Scan(%d): %q, error %d, want nothing, error %d", what, epoch, got, err, want)
	}
}

// starts looks at what a Start must tell.
func starts(t *testing.T, what string, l *Log, epoch uint64, want api.Errno) {
	t.Helper()
	if err := l.Start(epoch); err != want {
		t.Errorf("%s: Start(%d): error %d, want %d", what, epoch, err, want)
	}
}

// appends looks at what an Append must tell.
func appends(t *testing.T, what string, l *Log, s string, want api.Errno) {
	t.Helper()
	if err := l.Append(s); err != want {
		t.Errorf("%s: Append of %d bytes: error %d, want %d", what, len(s), err, want)
	}
}

// appendsAll looks at Appends of which each must be fine.
func appendsAll(t *testing.T, what string, l *Log, records ...string) {
	t.Helper()
	for _, s := range records {
		appends(t, what, l, s, api.OK)
	}
}

// counted looks at a disk's open writes and reads.
func counted(t *testing.T, what string, d *disk.Disk, open, reads int) {
	t.Helper()
	if d.Open() != open || d.Reads() != reads {
		t.Errorf("%s: %d open, %d reads, want %d, %d", what, d.Open(), d.Reads(), open, reads)
	}
}

func TestNewOfDisksThatHaveTheSectors(t *testing.T) { // P7.1
	for _, n := range []int{1, 2, 3, 64, 65, 500, 1023, 1024} {
		for _, at := range []int{0, 1, 2, 500, 1024 - n} {
			for _, more := range []int{0, 1, 2, 64, 1024 - at - n} {
				size := at + n + more
				if size > 1024 || more < 0 {
					continue
				}
				isShut(t, "new", made(t, disk.New(size), at, n))
			}
		}
	}
}

func TestNewOfDisksThatHaveThemNot(t *testing.T) { // P7.1
	for _, n := range []int{1, 2, 3, 64, 500, 1024} {
		for _, at := range []int{0, 1, 2, 500, 1023, 1024} {
			for size := max(1, at+n-3); size < at+n && size <= 1024; size++ {
				if New(disk.New(size), at, n) != nil {
					t.Errorf("New(a disk of %d, %d, %d): a log", size, at, n)
				}
			}
		}
	}
}

func TestNewOfOtherNumbers(t *testing.T) { // P7.1, P1, R5
	great := []int{1024, 1025, 1 << 16, 1 << 31, 1 << 32, 1 << 61, 1 << 62, 1<<62 + 1, math.MaxInt - 1023, math.MaxInt - 1, math.MaxInt}
	negative := []int{-1, -2, -3, -64, -1023, -1024, -1025, -1 << 31, -1 << 32, -1 << 62, math.MinInt + 1, math.MinInt}
	wrong := append(slices.Clone(great), negative...)
	for _, size := range []int{1, 2, 130, 1023, 1024} {
		d := disk.New(size)
		for _, at := range append([]int{0, 1}, wrong...) {
			for _, n := range append([]int{0}, wrong...) {
				if New(d, at, n) != nil && (at != 0 || n != size) {
					t.Errorf("New(a disk of %d, %d, %d): a log", size, at, n)
				}
			}
		}
		for _, at := range wrong {
			for _, n := range []int{1, 2, 3, size} {
				if New(d, at, n) != nil {
					t.Errorf("New(a disk of %d, %d, %d): a log", size, at, n)
				}
			}
		}
		// A place ahead of the disk isn't made up for by sectors that it has.
		for ahead := 1; ahead <= size; ahead++ {
			if New(d, -ahead, size) != nil || New(d, -ahead, ahead) != nil || New(d, -ahead, size+ahead) != nil {
				t.Errorf("New(a disk of %d, %d, ..): a log", size, -ahead)
			}
		}
	}
}

func TestNewOfNoDisk(t *testing.T) { // P7.1
	for _, d := range []*disk.Disk{nil, disk.New(0), disk.New(1025), {}} {
		for _, at := range []int{0, 1, 1024, math.MaxInt, -1, -2, -1024, math.MinInt} {
			for _, n := range []int{0, 1, 2, 1024, math.MaxInt, -1, -2, math.MinInt} {
				if New(d, at, n) != nil {
					t.Errorf("New(no disk, %d, %d): a log", at, n)
				}
			}
		}
	}
}

func TestNewUsesNothingOfTheDisk(t *testing.T) { // P7.1
	d := disk.New(3)
	lies(t, d, 0, sectorsOf(t, 1, "a", "b")...)
	d.Fail(1)
	l := made(t, d, 0, 3)
	counted(t, "new", d, 0, 0)
	isShut(t, "new", l)
	refusesScan(t, "the first operation", l, 1, api.ErrIO)
}

func TestTheExample(t *testing.T) { // the chapter's example
	for n := 2; n <= 4; n++ {
		_, l := alone(t, n)
		starts(t, "first", l, 1, api.OK)
		appends(t, "second", l, "a", api.OK)
		appends(t, "third", l, "b", api.OK)
		tells(t, "fourth", l, 1, "a", "b")
		tells(t, "fifth", l, 2)
	}
}

func TestScanOfALogThatWasNeverWritten(t *testing.T) { // P7.1
	for _, n := range []int{1, 2, 64, 1024} {
		for _, epoch := range epochs() {
			d, l := alone(t, n)
			for i := range 3 {
				tells(t, "never written", l, epoch)
				stands(t, "never written", l, 0, n)
				counted(t, "never written", d, 0, i+1)
			}
		}
	}
}

func TestScanOfRecords(t *testing.T) { // P7.1
	for _, n := range []int{1, 2, 3, 7, 64} {
		for count := range n + 1 {
			for _, epoch := range epochs() {
				what := fmt.Sprintf("%d of %d", count, n)
				d, l := alone(t, n)
				records := texts(count, count)
				lies(t, d, 0, sectorsOf(t, epoch, records...)...)
				for i := range 2 {
					tells(t, what, l, epoch, records...)
					stands(t, what, l, count, n-count)
					counted(t, what, d, 0, (i+1)*min(count+1, n))
				}
				if epoch > 1 {
					tells(t, "the epoch ahead", l, epoch-1)
				}
				if epoch < last {
					tells(t, "the epoch behind", l, epoch+1)
				}
			}
		}
	}
}

// TestScanOfALogThatIsFull: there is nothing behind its last sector to read.
func TestScanOfALogThatIsFull(t *testing.T) { // P7.1, P7.2
	for _, n := range []int{1, 2, 300, 1024} {
		d, l := alone(t, n)
		records := texts(n, n)
		lies(t, d, 0, sectorsOf(t, 5, records...)...)
		tells(t, "full", l, 5, records...)
		stands(t, "full", l, n, 0)
		counted(t, "full", d, 0, n)
		appends(t, "full", l, "a", api.ErrLog)
	}
}

func TestScanOfTextsOfAllLengths(t *testing.T) { // P7.1
	d, l := alone(t, 45)
	var records []string
	for n := range 44 {
		records = append(records, mixed(n, n))
	}
	lies(t, d, 0, sectorsOf(t, 9, records...)...)
	tells(t, "all lengths", l, 9, records...)
}

// broken are sectors that are no record of an epoch with a number, with what is wrong with each.
func broken(t *testing.T, epoch, number uint64) map[string]string {
	t.Helper()
	right := sector(t, epoch, number, "right")
	old := sector(t, epoch-1, number, "old text")
	l := map[string]string{
		"of the epoch ahead":       sector(t, epoch-1, number, "right"),
		"of the epoch behind":      sector(t, epoch+1, number, "right"),
		"of epoch 0":               sector(t, 0, number, "right"),
		"with the number ahead":    sector(t, epoch, number-1, "right"),
		"with the number behind":   sector(t, epoch, number+1, "right"),
		"with a great number":      sector(t, epoch, number+1<<32, "right"),
		"with the greatest number": sector(t, epoch, last, "right"),
		"with both changed places": sector(t, number, epoch, "right"),
		"never written":            blank(),
		"of bytes ff":              strings.Repeat("\xff", 64),
		"of any bytes":             mixed(int(number), 64),
		"with its tag alone":       strings.Repeat("\x00", 48) + right[48:],
		"with its tag and noise":   mixed(3, 48) + right[48:],
	}
	for _, at := range []int{1, 5, 8, 20, 47, 48, 54, 55} {
		l[fmt.Sprintf("torn at %d", at)] = right[:at] + old[at:]
		l[fmt.Sprintf("of the old one up to %d", at)] = old[:at] + right[at:]
	}
	for at := range 64 {
		l[fmt.Sprintf("with another byte %d", at)] = right[:at] + string([]byte{right[at] ^ 0x20}) + right[at+1:]
	}
	return l
}

// TestScanUpToTheFirstThatIsNone: what lies behind it is not told, whole or not, and not even read. As each place in turn is the last one read, they are read in order.
func TestScanUpToTheFirstThatIsNone(t *testing.T) { // P7.1
	const n = 5
	for at := range n {
		for what, wrong := range broken(t, 9, uint64(at)) {
			what := fmt.Sprintf("sector %d, %s", at, what)
			d := disk.New(n + 3)
			l := made(t, d, 2, n)
			records := texts(at, n)
			lies(t, d, 2, sectorsOf(t, 9, records...)...)
			lies(t, d, 2+at, wrong)
			tells(t, what, l, 9, records[:at]...)
			stands(t, what, l, at, n-at)
			counted(t, what, d, 0, at+1)
		}
	}
}

// TestAppendGoesToTheFirstThatIsNone: whatever is wrong with it.
func TestAppendGoesToTheFirstThatIsNone(t *testing.T) { // P7.2
	const n = 3
	for at := range n {
		for what, wrong := range broken(t, 9, uint64(at)) {
			d, l := alone(t, n)
			records := texts(at, n)
			want := sectorsOf(t, 9, records...)
			want[at] = wrong
			lies(t, d, 0, want...)
			tells(t, what, l, 9, records[:at]...)
			appends(t, what, l, "new", api.OK)
			stands(t, what, l, at+1, n-at-1)
			want[at] = sector(t, 9, uint64(at), "new")
			has(t, what, d, want...)
		}
	}
}

// TestScanOfALogBehindOtherSectors: numbers are from 0 on, wherever the log stands.
func TestScanOfALogBehindOtherSectors(t *testing.T) { // P7.1
	ahead, behind := sectorsOf(t, 4, "ahead", "of", "it"), sectorsOf(t, 4, "behind", "it")
	d := disk.New(10)
	lies(t, d, 0, ahead...)
	lies(t, d, 7, sector(t, 4, 4, "behind"), behind[0], behind[1])
	was := all(t, d)
	l := made(t, d, 3, 4)
	reads := d.Reads()
	tells(t, "others' sectors", l, 4)
	stands(t, "others' sectors", l, 0, 4)
	counted(t, "others' sectors", d, 0, reads+1)
	records := texts(1, 4)
	appendsAll(t, "four", l, records...)
	appends(t, "full", l, "a", api.ErrLog)
	has(t, "four", d, slices.Concat(was[:3], sectorsOf(t, 4, records...), was[7:])...)
	reads = d.Reads()
	tells(t, "four", l, 4, records...)
	counted(t, "four", d, 0, reads+4)
	// Numbers as of the disk's places are none of the log.
	d = disk.New(6)
	lies(t, d, 0, sectorsOf(t, 4, records...)...)
	tells(t, "from the second sector on", made(t, d, 1, 4), 4)
	tells(t, "the first two", made(t, d, 0, 2), 4, records[:2]...)
}

func TestScanTellsOpenWritesToo(t *testing.T) { // P7.1: a disk's Read tells the last open write
	d, l := alone(t, 2)
	d.Write(0, sector(t, 3, 0, "open"))
	tells(t, "open", l, 3, "open")
	counted(t, "open", d, 1, 2)
	d.Crash(nil)
	tells(t, "lost", l, 3)
}

func TestScanWhereASectorCantBeRead(t *testing.T) { // P7.1
	for n := 1; n <= 4; n++ {
		for count := range n + 1 {
			most := min(count+1, n)
			for fails := 1; fails <= most; fails++ {
				what := fmt.Sprintf("read %d of %d", fails, most)
				d := disk.New(n + 2)
				l := made(t, d, 1, n)
				records := texts(count, count)
				lies(t, d, 1, sectorsOf(t, 6, records...)...)
				was := all(t, d)
				for range 3 { // ahead of the first Scan, behind one that was fine, behind a Start
					reads := d.Reads()
					d.Fail(fails)
					refusesScan(t, what, l, 6, api.ErrIO)
					counted(t, what, d, 0, reads+fails)
					isShut(t, what, l)
					refusesScan(t, what, l, 0, api.ErrArg)
					starts(t, what, l, 0, api.ErrArg)
					isShut(t, what, l)
					counted(t, what, d, 0, reads+fails)
					has(t, what, d, was...)
					tells(t, what, l, 6, records...)
					stands(t, what, l, count, n-count)
					starts(t, what, l, 7, api.OK)
				}
			}
			// The operation behind all reads is none of Scan's.
			d, l := alone(t, n)
			records := texts(count, count)
			lies(t, d, 0, sectorsOf(t, 6, records...)...)
			d.Fail(most + 1)
			tells(t, "one behind", l, 6, records...)
			refusesScan(t, "one behind", l, 6, api.ErrIO)
		}
	}
}

// TestAScanThatFailedMayBeMadeGood: by a Scan, or by a Start.
func TestAScanThatFailedMayBeMadeGood(t *testing.T) { // P7.1
	d, l := alone(t, 3)
	lies(t, d, 0, sectorsOf(t, 6, "a", "b")...)
	tells(t, "two", l, 6, "a", "b")
	d.Fail(2)
	refusesScan(t, "fails", l, 6, api.ErrIO)
	isShut(t, "fails", l)
	tells(t, "again", l, 6, "a", "b")
	appends(t, "again", l, "c", api.OK)
	d.Fail(1)
	refusesScan(t, "fails", l, 6, api.ErrIO)
	starts(t, "fails", l, 7, api.OK)
	stands(t, "started", l, 0, 3)
	appends(t, "started", l, "d", api.OK)
	has(t, "started", d, sector(t, 7, 0, "d"), sector(t, 6, 1, "b"), sector(t, 6, 2, "c"))
}

// TestEpochNothing: it is refused, and what is refused changes nothing.
func TestEpochNothing(t *testing.T) { // P7.1
	d, l := alone(t, 3)
	lies(t, d, 0, sectorsOf(t, 0, "of", "epoch", "0")...)
	for range 2 {
		refusesScan(t, "not open", l, 0, api.ErrArg)
		starts(t, "not open", l, 0, api.ErrArg)
		isShut(t, "not open", l)
	}
	tells(t, "sectors of epoch 0", l, 1)
	counted(t, "sectors of epoch 0", d, 0, 1)
	appends(t, "first", l, "a", api.OK)
	d.Fail(1)
	for range 2 {
		refusesScan(t, "open", l, 0, api.ErrArg)
		stands(t, "open", l, 1, 2)
		starts(t, "open", l, 0, api.ErrArg)
		stands(t, "open", l, 1, 2)
	}
	counted(t, "open", d, 0, 1)
	d.Fail(0)
	appends(t, "second", l, "b", api.OK)
	has(t, "second", d, sector(t, 1, 0, "a"), sector(t, 1, 1, "b"), sector(t, 0, 2, "0"))
	appends(t, "third", l, "c", api.OK)
	refusesScan(t, "full", l, 0, api.ErrArg)
	starts(t, "full", l, 0, api.ErrArg)
	stands(t, "full", l, 3, 0)
	appends(t, "full", l, "d", api.ErrLog)
	d.Fail(1)
	refusesScan(t, "fails", l, 1, api.ErrIO)
	refusesScan(t, "shut", l, 0, api.ErrArg)
	starts(t, "shut", l, 0, api.ErrArg)
	isShut(t, "shut", l)
}

func TestStartReadsAndWritesNothing(t *testing.T) { // P7.1
	for _, epoch := range epochs() {
		for _, n := range []int{1, 2, 64} {
			d := disk.New(n + 2)
			l := made(t, d, 1, n)
			lies(t, d, 0, texts64(n+2)...)
			d.Write(0, mixed(1, 64)) // an open write of another owner of the disk
			was := all(t, d)
			reads := d.Reads()
			d.Fail(1)
			for range 3 {
				starts(t, "start", l, epoch, api.OK)
				stands(t, "start", l, 0, n)
				counted(t, "start", d, 1, reads)
			}
			// The operation that fails is still to come.
			appends(t, "the first operation", l, "a", api.ErrIO)
			has(t, "start", d, was...)
		}
	}
}

// texts64 are n texts of just a sector's length.
func texts64(n int) []string {
	l := make([]string, n)
	for i := range l {
		l[i] = mixed(i, 64)
	}
	return l
}

// TestStartIsWithoutRecords: even if there are some, of that epoch or another one.
func TestStartIsWithoutRecords(t *testing.T) { // P7.1, P7.2
	for _, epoch := range []uint64{1, 6, 7, last} {
		d, l := alone(t, 4)
		lies(t, d, 0, sectorsOf(t, 6, "a", "b", "c")...)
		tells(t, "three", l, 6, "a", "b", "c")
		stands(t, "three", l, 3, 1)
		starts(t, "started", l, epoch, api.OK)
		stands(t, "started", l, 0, 4)
		has(t, "started", d, sectorsOf(t, 6, "a", "b", "c")...)
		appends(t, "started", l, "new", api.OK)
		stands(t, "one", l, 1, 3)
		has(t, "one", d, sector(t, epoch, 0, "new"), sector(t, 6, 1, "b"), sector(t, 6, 2, "c"))
		appends(t, "started", l, "newer", api.OK)
		stands(t, "two", l, 2, 2)
		has(t, "two", d, sector(t, epoch, 0, "new"), sector(t, epoch, 1, "newer"), sector(t, 6, 2, "c"))
		if epoch != 6 {
			tells(t, "two", l, epoch, "new", "newer")
			tells(t, "old ones", l, 6)
			continue
		}
		// Started with an epoch that was there already, what still lies behind is of it too, as the chapter's words tell records.
		tells(t, "the same epoch", l, 6, "new", "newer", "c")
	}
}

func TestAppendOfTextsOfAllLengths(t *testing.T) { // P7.2
	for _, epoch := range epochs() {
		d, l := alone(t, 44)
		starts(t, "start", l, epoch, api.OK)
		var want []string
		for n := range 44 {
			s := mixed(n, n)
			appends(t, "one more", l, s, api.OK)
			want = append(want, s)
			stands(t, "one more", l, n+1, 43-n)
		}
		has(t, "all lengths", d, sectorsOf(t, epoch, want...)...)
		tells(t, "all lengths", l, epoch, want...)
	}
}

func TestAppendOfTextsThatAreTooLong(t *testing.T) { // P7.2, R2, R5
	d, l := alone(t, 2)
	for _, n := range []int{44, 45, 63, 64, 65, 86, 255, 256, 256 + 43, 1 << 16, 1 << 20} {
		long := mixed(1, n)
		// Too long is named first: it is no other error, however the log stands.
		appends(t, "not open", made(t, d, 0, 2), long, api.ErrArg)
		starts(t, "start", l, 3, api.OK)
		appends(t, "open", l, long, api.ErrArg)
		stands(t, "open", l, 0, 2)
		counted(t, "open", d, 0, 0)
		has(t, "open", d)
		// What was refused has not failed.
		appendsAll(t, "open", l, "a", "b")
		appends(t, "full", l, long, api.ErrArg)
		stands(t, "full", l, 2, 0)
		d.Fail(1)
		refusesScan(t, "fails", l, 3, api.ErrIO)
		appends(t, "behind a Scan that failed", l, long, api.ErrArg)
		starts(t, "start", l, 3, api.OK)
		d.Fail(1)
		appends(t, "fails", l, "a", api.ErrIO)
		appends(t, "behind one that failed", l, long, api.ErrArg)
		isShut(t, "behind one that failed", l)
		d = disk.New(2)
		l = made(t, d, 0, 2)
	}
}

func TestAppendAheadOfScanAndStart(t *testing.T) { // P7.2
	d, l := alone(t, 2)
	for range 3 {
		isShut(t, "not open", l)
	}
	counted(t, "not open", d, 0, 0)
	has(t, "not open", d)
	starts(t, "start", l, 1, api.OK)
	appends(t, "start", l, "a", api.OK)
	other := made(t, d, 0, 2)
	isShut(t, "another one", other)
	tells(t, "another one", other, 1, "a")
	appends(t, "another one", other, "b", api.OK)
	has(t, "another one", d, sectorsOf(t, 1, "a", "b")...)
}

// TestAppendToALogThatIsFull: be it so by Appends or by a Scan; it stays open.
func TestAppendToALogThatIsFull(t *testing.T) { // P7.2
	for _, n := range []int{1, 2, 5} {
		d := disk.New(n + 1)
		l := made(t, d, 0, n)
		records := texts(n, n)
		starts(t, "start", l, 8, api.OK)
		appendsAll(t, "filled", l, records...)
		want := append(sectorsOf(t, 8, records...), blank())
		for range 2 {
			d.Fail(1)
			reads := d.Reads()
			for range 3 {
				for _, s := range []string{"", "a", mixed(1, 43)} {
					appends(t, "full", l, s, api.ErrLog)
					stands(t, "full", l, n, 0)
				}
			}
			counted(t, "full", d, 0, reads)
			d.Fail(0)
			has(t, "full", d, want...)
			tells(t, "full", l, 8, records...)
		}
		starts(t, "another epoch", l, 9, api.OK)
		stands(t, "another epoch", l, 0, n)
		appends(t, "another epoch", l, "a", api.OK)
		want[0] = sector(t, 9, 0, "a")
		has(t, "another epoch", d, want...)
	}
}

// TestWhichSectorAnAppendWrites: the one behind the records, and that alone.
func TestWhichSectorAnAppendWrites(t *testing.T) { // P7.2
	for _, at := range []int{0, 1, 5} {
		for _, n := range []int{1, 2, 6} {
			d := disk.New(at + n + 2)
			lies(t, d, 0, texts64(at+n+2)...)
			want := all(t, d)
			l := made(t, d, at, n)
			starts(t, "start", l, 77, api.OK)
			reads := d.Reads()
			for number, s := range texts(n, n) {
				stands(t, "ahead", l, number, n-number)
				appends(t, "one more", l, s, api.OK)
				stands(t, "behind", l, number+1, n-number-1)
				counted(t, "one more", d, 0, reads)
				want[at+number] = sector(t, 77, uint64(number), s)
				has(t, fmt.Sprintf("%d of %d, from %d on", number, n, at), d, want...)
				reads = d.Reads()
			}
		}
	}
}

// TestALogOfAllSectors: numbers of more than a byte, and as many records as there may be.
func TestALogOfAllSectors(t *testing.T) { // P7.1, P7.2
	d, l := alone(t, 1024)
	starts(t, "start", l, last, api.OK)
	records := texts(2, 1024)
	appendsAll(t, "one more", l, records...)
	appends(t, "full", l, "a", api.ErrLog)
	stands(t, "full", l, 1024, 0)
	has(t, "full", d, sectorsOf(t, last, records...)...)
	tells(t, "full", l, last, records...)
	tells(t, "of another reader", made(t, d, 0, 1024), last, records...)
	tells(t, "of one that is shorter", made(t, d, 0, 257), last, records[:257]...)
}

func TestAppendFlushes(t *testing.T) { // P7.2
	d := disk.New(4)
	l := made(t, d, 0, 3)
	starts(t, "start", l, 2, api.OK)
	d.Write(3, mixed(1, 64)) // an open write of another owner of the disk
	appends(t, "first", l, "a", api.OK)
	counted(t, "first", d, 0, 0)
	if n := d.Crash(nil); n != 0 {
		t.Errorf("a crash behind an Append took %d writes", n)
	}
	has(t, "behind a crash", d, sector(t, 2, 0, "a"), blank(), blank(), mixed(1, 64))
	appends(t, "second", l, "b", api.OK)
	d.Crash(nil)
	tells(t, "behind a crash", l, 2, "a", "b")
}

// TestAppendWithEachOperationFailing: a write that failed has no flush behind it, and behind either the log is not open.
func TestAppendWithEachOperationFailing(t *testing.T) { // P7.2
	for count := range 3 {
		for fails := 1; fails <= 2; fails++ {
			for _, flushed := range []bool{false, true} {
				what := fmt.Sprintf("operation %d behind %d records", fails, count)
				d, l := alone(t, 4)
				records := texts(count, count)
				starts(t, "start", l, 5, api.OK)
				appendsAll(t, "ahead", l, records...)
				stands(t, "ahead", l, count, 4-count)
				d.Fail(fails)
				appends(t, what, l, "new", api.ErrIO)
				counted(t, what, d, fails-1, 0)
				isShut(t, what, l)
				counted(t, what, d, fails-1, 0)
				want := records
				if fails == 2 { // it was written, but it may still be lost
					want = append(slices.Clone(records), "new")
				}
				has(t, what, d, sectorsOf(t, 5, want...)...)
				if flushed {
					d.Flush()
				} else {
					d.Crash(nil)
					want = records
				}
				isShut(t, what, l)
				tells(t, what, l, 5, want...)
				stands(t, what, l, len(want), 4-len(want))
				appends(t, what, l, "behind", api.OK)
				tells(t, what, l, 5, append(slices.Clone(want), "behind")...)
			}
		}
		// The operation behind both is none of Append's.
		d, l := alone(t, 4)
		starts(t, "start", l, 5, api.OK)
		d.Fail(3)
		appends(t, "one behind", l, "a", api.OK)
		appends(t, "one behind", l, "b", api.ErrIO)
	}
}

// TestTheWriteFailsWithOthersOpen: then those are not flushed, for it ends at the first thing that fails.
func TestTheWriteFailsWithOthersOpen(t *testing.T) { // P7.2
	d := disk.New(3)
	l := made(t, d, 0, 2)
	starts(t, "start", l, 5, api.OK)
	d.Write(2, mixed(1, 64))
	d.Fail(1)
	appends(t, "fails", l, "a", api.ErrIO)
	counted(t, "fails", d, 1, 0)
	if n := d.Crash(nil); n != 1 {
		t.Errorf("a crash took %d writes, want 1", n)
	}
	has(t, "fails", d)
}

// TestAStartMakesAFailedLogGood: as a Scan does.
func TestAStartMakesAFailedLogGood(t *testing.T) { // P7.1, P7.2
	for fails := 1; fails <= 2; fails++ {
		d, l := alone(t, 3)
		starts(t, "start", l, 5, api.OK)
		appends(t, "first", l, "a", api.OK)
		d.Fail(fails)
		appends(t, "fails", l, "b", api.ErrIO)
		isShut(t, "fails", l)
		starts(t, "another epoch", l, 6, api.OK)
		stands(t, "another epoch", l, 0, 3)
		appends(t, "another epoch", l, "c", api.OK)
		stands(t, "another epoch", l, 1, 2)
		tells(t, "another epoch", l, 6, "c")
	}
}

// TestRecordsOfOneEpochBehindThoseOfAnother: more than there were, fewer, and as many.
func TestRecordsOfOneEpochBehindThoseOfAnother(t *testing.T) { // P7.1, P7.2
	const n = 5
	for _, x := range [][2]uint64{{1, 2}, {2, 1}, {255, 256}, {256, 255}, {last - 1, last}, {last, 1}} {
		for old := range n + 1 {
			for fresh := range n + 1 {
				what := fmt.Sprintf("%d of epoch %d behind %d of epoch %d", fresh, x[1], old, x[0])
				d, l := alone(t, n)
				were, are := texts(1, old), texts(2, fresh)
				starts(t, what, l, x[0], api.OK)
				appendsAll(t, what, l, were...)
				starts(t, what, l, x[1], api.OK)
				appendsAll(t, what, l, are...)
				stands(t, what, l, fresh, n-fresh)
				want := sectorsOf(t, x[1], are...)
				for number := fresh; number < old; number++ {
					want = append(want, sector(t, x[0], uint64(number), were[number]))
				}
				has(t, what, d, want...)
				tells(t, what, l, x[1], are...)
				if fresh == 0 {
					tells(t, what, l, x[0], were...)
				} else {
					tells(t, what, l, x[0])
				}
				tells(t, what, l, 77)
			}
		}
	}
}

// TestScanOfAnotherEpochOpensOfThat: what is put behind it is of that epoch, from the first sector on.
func TestScanOfAnotherEpochOpensOfThat(t *testing.T) { // P7.1, P7.2
	d, l := alone(t, 3)
	starts(t, "start", l, 4, api.OK)
	appendsAll(t, "first", l, "a", "b")
	tells(t, "another epoch", l, 5)
	stands(t, "another epoch", l, 0, 3)
	appends(t, "another epoch", l, "c", api.OK)
	has(t, "another epoch", d, sector(t, 5, 0, "c"), sector(t, 4, 1, "b"))
	tells(t, "the old epoch", l, 4)
	tells(t, "another epoch", l, 5, "c")
}

// fates are what may become of one write: lost, whole, or torn in each place.
func fates() []api.Fate {
	l := []api.Fate{{Kind: 0}, {Kind: 1}}
	for at := range 65 {
		l = append(l, api.Fate{Kind: 2, At: at})
	}
	return l
}

// leaves is what a sector says behind a crash in which one write was open.
func leaves(old, fresh string, f api.Fate) string {
	kept := [3]int{0, 64, f.At}[f.Kind]
	return fresh[:kept] + old[kept:]
}

// begun is what an Append finds: the sectors that were written, and the records of epoch 256 that they are.
type begun struct{ sectors, records []string }

// before are logs of four sectors, by what was written to them. Of some the sector behind the records is no blank one.
func before(t *testing.T) map[string]begun {
	t.Helper()
	old, two := sectorsOf(t, 255, "old a", "old b", "old c", "the text"), sectorsOf(t, 256, "a", "b")
	torn := sector(t, 256, 2, "torn")
	return map[string]begun{
		"nothing":                     {},
		"one":                         {two[:1], []string{"a"}},
		"two":                         {two, []string{"a", "b"}},
		"three":                       {sectorsOf(t, 256, "a", "", mixed(1, 43)), []string{"a", "", mixed(1, 43)}},
		"old ones":                    {old, nil},
		"two over old ones":           {append(slices.Clone(two), old[2:]...), []string{"a", "b"}},
		"two over the same text":      {append(slices.Clone(two), sectorsOf(t, 255, "", "", "the text")[2]), []string{"a", "b"}},
		"two over newer ones":         {append(slices.Clone(two), sectorsOf(t, 257, "", "", "c", "d")[2:]...), []string{"a", "b"}},
		"two over one of their epoch": {append(slices.Clone(two), sector(t, 256, 3, "the text")), []string{"a", "b"}},
		"two over a torn one":         {append(slices.Clone(two), torn[:30]+old[2][30:]), []string{"a", "b"}},
		"two over one with its tag":   {append(slices.Clone(two), mixed(1, 48)+torn[48:]), []string{"a", "b"}},
		"two over bytes ff":           {append(slices.Clone(two), strings.Repeat("\xff", 64)), []string{"a", "b"}},
	}
}

// crashed looks at an Append that a crash ends at its n-th operation, with that fate: behind it Scan tells the records ahead of it, and the new one just if all of it came to lie there; and an Append is fine again.
func crashed(t *testing.T, what string, b begun, n int, f api.Fate, s string) {
	t.Helper()
	d, l := alone(t, 4)
	lies(t, d, 0, b.sectors...)
	tells(t, what, l, 256, b.records...)
	count := len(b.records)
	was, _ := d.Read(count)
	d.Fail(n)
	appends(t, what, l, s, api.ErrIO)
	d.Crash([]api.Fate{f})
	want := slices.Clone(b.records)
	if fresh := sector(t, 256, uint64(count), s); n == 2 && leaves(was, fresh, f) == fresh {
		want = append(want, s)
	}
	isShut(t, what, l)
	tells(t, what, made(t, d, 0, 4), 256, want...)
	tells(t, what, l, 256, want...)
	stands(t, what, l, len(want), 4-len(want))
	if len(want) == 4 {
		appends(t, what, l, "behind", api.ErrLog)
		return
	}
	appends(t, what, l, "behind", api.OK)
	d.Crash(nil)
	tells(t, what, l, 256, append(want, "behind")...)
}

func TestACrashInEachPlaceOfAnAppend(t *testing.T) { // P7.3
	for what, b := range before(t) {
		for n := 1; n <= 2; n++ {
			for _, f := range fates() {
				for _, s := range []string{"", "the text", mixed(5, 43)} {
					crashed(t, fmt.Sprintf("%s, operation %d, fate %v, %d bytes", what, n, f, len(s)), b, n, f, s)
				}
			}
		}
	}
}

// TestACrashBehindAnAppend: what was told as done stays, whatever becomes of others' writes.
func TestACrashBehindAnAppend(t *testing.T) { // P7.3
	for _, mine := range fates() {
		for _, others := range fates() {
			d := disk.New(5)
			l := made(t, d, 1, 3)
			starts(t, "start", l, 3, api.OK)
			appends(t, "first", l, "a", api.OK)
			d.Write(0, mixed(1, 64))
			d.Write(4, mixed(2, 64))
			d.Fail(2)
			appends(t, "second", l, "b", api.ErrIO)
			d.Crash([]api.Fate{others, others, mine})
			got, err := l.Scan(3)
			fresh := sector(t, 3, 1, "b")
			want := []string{"a"}
			if leaves(blank(), fresh, mine) == fresh {
				want = append(want, "b")
			}
			if !slices.Equal(got, want) || err != api.OK {
				t.Errorf("fates %v, %v: %q, error %d, want %q", others, mine, got, err, want)
			}
		}
	}
}

// TestAFlushKeepsWhatAFailedAppendLeft: an Append that failed, without a crash, leaves an open write, which a Scan tells. Once it is flushed, no crash of the next Append takes it.
func TestAFlushKeepsWhatAFailedAppendLeft(t *testing.T) { // P7.3
	for fails := 1; fails <= 2; fails++ {
		for _, f := range fates() {
			d, l := alone(t, 4)
			starts(t, "start", l, 3, api.OK)
			appends(t, "first", l, "a", api.OK)
			d.Fail(fails)
			appends(t, "second", l, "b", api.ErrIO)
			if err := d.Flush(); err != api.OK {
				t.Fatalf("flush: error %d", err)
			}
			told, _ := l.Scan(3)
			if len(told) != fails {
				t.Errorf("operation %d: %q", fails, told)
			}
			d.Fail(2)
			appends(t, "third", l, "c", api.ErrIO)
			d.Crash([]api.Fate{f})
			if got, err := l.Scan(3); !slices.Equal(got, told) && !slices.Equal(got, append(told, "c")) || err != api.OK {
				t.Errorf("operation %d, fate %v: %q, error %d, want %q and perhaps c", fails, f, got, err, told)
			}
		}
	}
}

// TestCrashBehindCrash: of a long row of Appends, each with a crash in it or behind it, no record that was told as done is ever lost, nor any that a Scan told.
func TestCrashBehindCrash(t *testing.T) { // P7.3
	for n := 1; n <= 9; n += 2 {
		d, l := alone(t, n)
		epoch := uint64(200)
		starts(t, "start", l, epoch, api.OK)
		var told []string
		x := uint64(n) + 99
		for i := range 3000 {
			x = drawn(x)
			s := mixed(i, int(x%44))
			d.Fail(int(x >> 20 % 4)) // 0 and 3 fail nothing of it
			err := l.Append(s)
			switch {
			case err == api.OK:
				told = append(told, s)
			case len(told) == n && err == api.ErrLog:
				epoch++
				starts(t, "start", l, epoch, api.OK)
				told = nil
				continue
			case err != api.ErrIO:
				t.Fatalf("append %d: error %d", i, err)
			}
			x = drawn(x)
			d.Crash([]api.Fate{{Kind: int(x >> 8 % 3), At: int(x >> 16 % 65)}})
			got, failed := l.Scan(epoch)
			more := err == api.ErrIO && slices.Equal(got, append(slices.Clone(told), s))
			if failed != api.OK || !more && !slices.Equal(got, told) {
				t.Fatalf("append %d: %q, error %d, want %q", i, got, failed, told)
			}
			told = slices.Clone(got)
		}
	}
}

func TestSeveralLogsOnOneDisk(t *testing.T) { // R4
	d := disk.New(6)
	a, b := made(t, d, 0, 3), made(t, d, 3, 3)
	starts(t, "a", a, 1, api.OK)
	isShut(t, "b", b)
	starts(t, "b", b, 2, api.OK)
	appends(t, "a", a, "first of a", api.OK)
	appends(t, "b", b, "first of b", api.OK)
	appends(t, "b", b, "second of b", api.OK)
	stands(t, "a", a, 1, 2)
	stands(t, "b", b, 2, 1)
	d.Fail(1)
	appends(t, "a", a, "second of a", api.ErrIO)
	isShut(t, "a", a)
	appends(t, "b", b, "third of b", api.OK)
	refusesScan(t, "nil", nil, 1, api.ErrArg)
	tells(t, "a", a, 1, "first of a")
	tells(t, "b", b, 2, "first of b", "second of b", "third of b")
	tells(t, "b", b, 1)
	tells(t, "a", a, 2)
}

// TestWhatIsHandedInIsItsOwners: bytes of which a text was made may be changed.
func TestWhatIsHandedInIsItsOwners(t *testing.T) { // R3
	for n := 1; n <= 43; n++ {
		d, l := alone(t, 2)
		starts(t, "start", l, 1, api.OK)
		bytes := []byte(mixed(1, n))
		s := string(bytes)
		appends(t, "first", l, s, api.OK)
		for i := range bytes {
			bytes[i] = 'x'
		}
		if s != mixed(1, n) {
			t.Errorf("an Append changed what was handed in")
		}
		has(t, "bytes changed", d, sector(t, 1, 0, mixed(1, n)))
		tells(t, "bytes changed", l, 1, mixed(1, n))
	}
}

// TestWhatIsToldIsItsOwners: neither does the log see what becomes of it, nor does it see what becomes of the log.
func TestWhatIsToldIsItsOwners(t *testing.T) { // R3
	d, l := alone(t, 4)
	starts(t, "start", l, 1, api.OK)
	appendsAll(t, "three", l, "a", "b", "c")
	told, _ := l.Scan(1)
	again, _ := l.Scan(1)
	for i := range told {
		told[i] = "x"
	}
	told = append(told[:1], "y", "z")
	if want := []string{"a", "b", "c"}; !slices.Equal(again, want) {
		t.Errorf("what was told became %q", again)
	}
	stands(t, "changed", l, 3, 1)
	appends(t, "changed", l, "d", api.OK)
	has(t, "changed", d, sectorsOf(t, 1, "a", "b", "c", "d")...)
	tells(t, "changed", l, 1, "a", "b", "c", "d")
	starts(t, "another epoch", l, 2, api.OK)
	appendsAll(t, "another epoch", l, "e", "f", "g", "h")
	lies(t, d, 0, texts64(4)...)
	if want := []string{"a", "b", "c"}; !slices.Equal(again, want) {
		t.Errorf("what was told became %q", again)
	}
	if want := []string{"x", "y", "z"}; !slices.Equal(told, want) {
		t.Errorf("what was changed became %q", told)
	}
	// A record may be put down again as it was told.
	d, l = alone(t, 2)
	starts(t, "start", l, 1, api.OK)
	appends(t, "first", l, mixed(5, 40), api.OK)
	told, _ = l.Scan(1)
	appends(t, "second", l, told[0], api.OK)
	has(t, "again", d, sectorsOf(t, 1, mixed(5, 40), mixed(5, 40))...)
}

func TestTheDiskLosesItsSectors(t *testing.T) { // P1: a disk's owner may do so
	d, l := alone(t, 2)
	starts(t, "start", l, 1, api.OK)
	*d = disk.Disk{}
	appends(t, "no sectors", l, "a", api.ErrIO)
	isShut(t, "no sectors", l)
	refusesScan(t, "no sectors", l, 1, api.ErrIO)
	isShut(t, "no sectors", l)
}

func TestNilLog(t *testing.T) { // P1, R1: a nil one
	var l *Log
	for range 2 {
		looksNone(t, "nil", l)
	}
}

// TestZeroLog: the chapter says nothing of one; it has no sectors, and is as a nil one.
func TestZeroLog(t *testing.T) { // P1
	l := &Log{}
	for range 2 {
		looksNone(t, "zero", l)
	}
}

// looksNone looks at all calls of a log that has no sectors.
func looksNone(t *testing.T, what string, l *Log) {
	t.Helper()
	for _, epoch := range append(epochs(), 0) {
		refusesScan(t, what, l, epoch, api.ErrArg)
		stands(t, what, l, 0, 0)
		starts(t, what, l, epoch, api.ErrArg)
		stands(t, what, l, 0, 0)
		for _, n := range []int{0, 1, 43, 44, 3000} {
			appends(t, what, l, mixed(1, n), api.ErrArg)
		}
		stands(t, what, l, 0, 0)
	}
}

// model is a log as the chapter's words tell it, one by one.
type model struct {
	d     *disk.Disk
	at, n int
	open  bool
	epoch uint64
	count int
}

func (m *model) Scan(epoch uint64) ([]string, api.Errno) {
	if epoch == 0 {
		return nil, api.ErrArg
	}
	m.open, m.epoch, m.count = false, 0, 0
	var l []string
	for len(l) < m.n {
		s, err := m.d.Read(m.at + len(l))
		if err != api.OK {
			return nil, api.ErrIO
		}
		if !frame.Whole(s, epoch, uint64(len(l))) {
			break
		}
		c, _ := frame.Read(s)
		l = append(l, c.Payload)
	}
	m.open, m.epoch, m.count = true, epoch, len(l)
	return l, api.OK
}

func (m *model) Start(epoch uint64) api.Errno {
	if epoch == 0 {
		return api.ErrArg
	}
	m.open, m.epoch, m.count = true, epoch, 0
	return api.OK
}

func (m *model) Append(s string) api.Errno {
	if len(s) > 43 {
		return api.ErrArg
	}
	if !m.open {
		return api.ErrState
	}
	if m.count == m.n {
		return api.ErrLog
	}
	text, _ := frame.Make(api.Cell{Payload: s, Epoch: m.epoch, Number: uint64(m.count)})
	if m.d.Write(m.at+m.count, text) != api.OK || m.d.Flush() != api.OK {
		m.open = false
		return api.ErrIO
	}
	m.count++
	return api.OK
}

// size is how many records there are, and how many more there may be.
func (m *model) size() (records, left int) {
	if !m.open {
		return 0, 0
	}
	return m.count, m.n - m.count
}

// meddled is a sector of some kind that another hand may leave among those of the log.
func meddled(t *testing.T, x uint64, n int, epoch uint64) string {
	t.Helper()
	whole := sector(t, epoch-1+x>>4%3, x>>8%uint64(n+1), mixed(int(x>>12%100), int(x>>20%44)))
	switch x % 5 {
	case 0:
		return mixed(int(x>>30%1000), 64)
	case 1:
		at := int(x >> 32 % 64)
		return whole[:at] + string([]byte{byte(x >> 40)}) + whole[at+1:]
	default:
		return whole
	}
}

func TestLongRowsOfCalls(t *testing.T) { // P7.1, P7.2
	for seed := range 80 {
		n, at := seed%6+1, seed%3
		d, twin := disk.New(at+n+1), disk.New(at+n+1)
		l, m := made(t, d, at, n), &model{d: twin, at: at, n: n}
		x := uint64(seed)*977 + 12345
		for range 20 {
			x = drawn(x)
		}
		epochs := []uint64{0, 1, 2, 3, 3, 3, 255, 256, last}
		for step := range 800 {
			x = drawn(x)
			what := fmt.Sprintf("seed %d, step %d", seed, step)
			y := x >> 8
			epoch := epochs[y%uint64(len(epochs))]
			if y>>32%3 > 0 && m.epoch > 0 {
				epoch = m.epoch
			}
			switch x % 16 {
			case 0, 1, 2:
				got, err := l.Scan(epoch)
				want, err2 := m.Scan(epoch)
				if !slices.Equal(got, want) || err != err2 {
					t.Fatalf("%s: Scan(%d): %q, error %d, want %q, error %d", what, epoch, got, err, want, err2)
				}
			case 3:
				if err, want := l.Start(epoch), m.Start(epoch); err != want {
					t.Fatalf("%s: Start(%d): error %d, want %d", what, epoch, err, want)
				}
			case 4, 5, 6, 7, 8, 9, 10:
				s := mixed(step, int(y%46))
				if err, want := l.Append(s), m.Append(s); err != want {
					t.Fatalf("%s: Append: error %d, want %d", what, err, want)
				}
			case 11, 12:
				k := int(y%uint64(n+3)) - 1
				d.Fail(k)
				twin.Fail(k)
			case 13, 14:
				f := make([]api.Fate, y%4)
				for i := range f {
					x = drawn(x)
					f[i] = api.Fate{Kind: int(x >> 5 % 3), At: int(x >> 16 % 65)}
				}
				if a, b := d.Crash(f), twin.Crash(f); a != b {
					t.Fatalf("%s: Crash: %d, want %d", what, a, b)
				}
			default:
				text, place := meddled(t, y, n, m.epoch), int(y>>50%uint64(d.Len()))
				d.Write(place, text)
				twin.Write(place, text)
			}
			records, left := m.size()
			stands(t, what, l, records, left)
			counted(t, what, d, twin.Open(), twin.Reads())
			if t.Failed() {
				return
			}
		}
		d.Fail(0)
		twin.Fail(0)
		has(t, fmt.Sprintf("seed %d", seed), d, all(t, twin)...)
	}
}
