package journal

import (
	"fmt"
	"math"
	"reflect"
	"slices"
	"strings"
	"testing"

	"horarium/api"
	"horarium/disk"
	"horarium/frame"
)

const last = math.MaxUint64

// mixed is a text of n bytes of all kinds, another one for each seed, the same in every run.
func mixed(seed, n int) string {
	b := make([]byte, n)
	x := uint64(88172645463325252) + uint64(seed)
	for i := range b {
		x = drawn(x)
		b[i] = byte(x >> 24)
	}
	return string(b)
}

// drawn is the number behind x in a row that looks like chance, and is none.
func drawn(x uint64) uint64 {
	x ^= x << 13
	x ^= x >> 7
	return x ^ x<<17
}

// texts are n texts of lengths from 0 to 43, other ones for each seed.
func texts(seed, n int) []string {
	l := make([]string, n)
	for i := range l {
		l[i] = mixed(seed*1000+i, (seed+i*7)%44)
	}
	return l
}

func sector(t *testing.T, epoch, number uint64, payload string) string {
	t.Helper()
	s, err := frame.Make(api.Cell{Payload: payload, Epoch: epoch, Number: number})
	if err != api.OK {
		t.Fatalf("Make of %d bytes: error %d", len(payload), err)
	}
	return s
}

// slotOf are the k sectors of a slot of that epoch, with data.
func slotOf(t *testing.T, k int, epoch uint64, data string) []string {
	t.Helper()
	l := make([]string, k)
	for i := range l {
		n := min(len(data), 43)
		l[i] = sector(t, epoch, uint64(i), data[:n])
		data = data[n:]
	}
	if data != "" {
		t.Fatalf("%d bytes too many for %d sectors", len(data), k)
	}
	return l
}

// logOf are the sectors of records of that epoch.
func logOf(t *testing.T, epoch uint64, ops ...string) []string {
	t.Helper()
	l := make([]string, len(ops))
	for i, s := range ops {
		l[i] = sector(t, epoch, uint64(i), s)
	}
	return l
}

// blanks are n sectors that were never written.
func blanks(n int) []string {
	return slices.Repeat([]string{strings.Repeat("\x00", 64)}, n)
}

// lies puts sectors on the disk, from at on, and flushes.
func lies(t *testing.T, d *disk.Disk, at int, sectors ...string) {
	t.Helper()
	for i, s := range sectors {
		if err := d.Write(at+i, s); err != api.OK {
			t.Fatalf("sector %d, %q: error %d", at+i, s, err)
		}
	}
	if err := d.Flush(); err != api.OK {
		t.Fatalf("flush: error %d", err)
	}
}

// all is what all sectors of the disk say.
func all(t *testing.T, d *disk.Disk) []string {
	t.Helper()
	l := make([]string, d.Len())
	for at := range l {
		s, err := d.Read(at)
		if err != api.OK {
			t.Fatalf("sector %d: error %d", at, err)
		}
		l[at] = s
	}
	return l
}

// has looks at what all sectors of the disk say: these, and nothing in the others.
func has(t *testing.T, what string, d *disk.Disk, want ...string) {
	t.Helper()
	want = append(slices.Clone(want), blanks(d.Len()-len(want))...)
	for at, got := range all(t, d) {
		if got != want[at] {
			t.Errorf("%s: sector %d: %q, want %q", what, at, got, want[at])
		}
	}
}

// uses looks at how many operations a call takes: the one behind them is the first that fails. A call that takes more of them fails itself.
func uses(t *testing.T, what string, d *disk.Disk, n int, call func()) {
	t.Helper()
	d.Fail(n + 1)
	call()
	if err := d.Flush(); err != api.ErrIO {
		t.Errorf("%s: fewer operations than %d", what, n)
	}
	d.Fail(0)
}

func found(data string, ops ...string) api.Found {
	return api.Found{Data: data, Ops: ops}
}

func same(a, b api.Found) bool {
	return a.Data == b.Data && slices.Equal(a.Ops, b.Ops)
}

// formats looks at a Format that must be fine.
func formats(t *testing.T, what string, d *disk.Disk, k int, data string) *Journal {
	t.Helper()
	j, err := Format(d, k, data)
	if j == nil || err != api.OK {
		t.Fatalf("%s: Format(a disk of %d, %d, %d bytes): error %d", what, d.Len(), k, len(data), err)
	}
	return j
}

// refusesFormat looks at a Format that must be an error and begin nothing.
func refusesFormat(t *testing.T, what string, d *disk.Disk, k int, data string, want api.Errno) {
	t.Helper()
	if j, err := Format(d, k, data); j != nil || err != want {
		t.Errorf("%s: Format(a disk of %d, %d, %d bytes): a journal: %t, error %d, want none, error %d", what, d.Len(), k, len(data), j != nil, err, want)
	}
}

// opens looks at an Open that must tell just that.
func opens(t *testing.T, what string, d *disk.Disk, k int, want api.Found) *Journal {
	t.Helper()
	j, got, err := Open(d, k)
	if j == nil || err != api.OK || !same(got, want) {
		t.Fatalf("%s: Open(a disk of %d, %d): %q, error %d, want %q", what, d.Len(), k, got, err, want)
	}
	if left := d.Len() - 2*k - len(want.Ops); !j.Good() || j.Left() != left {
		t.Errorf("%s: opened: good: %t, Left %d, want %d", what, j.Good(), j.Left(), left)
	}
	return j
}

// refusesOpen looks at an Open that must be an error and find nothing.
func refusesOpen(t *testing.T, what string, d *disk.Disk, k int, want api.Errno) {
	t.Helper()
	if j, got, err := Open(d, k); j != nil || !reflect.DeepEqual(got, api.Found{}) || err != want {
		t.Errorf("%s: Open(a disk of %d, %d): a journal: %t, %q, error %d, want nothing, error %d", what, d.Len(), k, j != nil, got, err, want)
	}
}

// appends looks at what an Append of each of these must tell.
func appends(t *testing.T, what string, j *Journal, want api.Errno, ops ...string) {
	t.Helper()
	for _, op := range ops {
		if err := j.Append(op); err != want {
			t.Errorf("%s: Append of %d bytes: error %d, want %d", what, len(op), err, want)
		}
	}
}

// snapshots looks at what a Snapshot must tell.
func snapshots(t *testing.T, what string, j *Journal, data string, want api.Errno) {
	t.Helper()
	if err := j.Snapshot(data); err != want {
		t.Errorf("%s: Snapshot of %d bytes: error %d, want %d", what, len(data), err, want)
	}
}

// stands looks at a journal that is good.
func stands(t *testing.T, what string, j *Journal, epoch uint64, left int) {
	t.Helper()
	if !j.Good() || j.Epoch() != epoch || j.Left() != left {
		t.Errorf("%s: good: %t, Epoch %d, Left %d, want true, %d, %d", what, j.Good(), j.Epoch(), j.Left(), epoch, left)
	}
}

// isBad looks at a journal that is not good: of its snapshot it tells the epoch alone, and it takes nothing.
func isBad(t *testing.T, what string, d *disk.Disk, j *Journal, k int, epoch uint64) {
	t.Helper()
	uses(t, what, d, 0, func() {
		for range 2 {
			appends(t, what, j, api.ErrIO, "", "a", mixed(1, 43))
			appends(t, what, j, api.ErrArg, mixed(1, 44), mixed(1, 1000))
			snapshots(t, what, j, "", api.ErrIO)
			snapshots(t, what, j, mixed(1, 43*k), api.ErrIO)
			snapshots(t, what, j, mixed(1, 43*k+1), api.ErrArg)
			if j.Good() || j.Left() != 0 || j.Epoch() != epoch {
				t.Errorf("%s: good: %t, Left %d, Epoch %d, want false, 0, %d", what, j.Good(), j.Left(), j.Epoch(), epoch)
			}
		}
	})
}

func TestTheExample(t *testing.T) { // the chapter's example
	d := disk.New(4)
	j := formats(t, "first", d, 1, "a")
	appends(t, "second", j, api.OK, "b")
	opens(t, "third", d, 1, found("a", "b"))
}

func TestDisksThatMayBe(t *testing.T) { // P8.1
	for _, k := range []int{1, 2, 3, 63, 64} {
		for _, more := range []int{1, 2, 64, 1023 - 2*k, 1024 - 2*k} {
			d := disk.New(2*k + more)
			refusesOpen(t, "never written", d, k, api.ErrNone)
			stands(t, "begun", formats(t, "begin", d, k, "data"), 1, more)
			stands(t, "opened", opens(t, "open", d, k, found("data")), 1, more)
		}
	}
}

func TestDisksThatMayNotBe(t *testing.T) { // P8.1
	for _, k := range []int{1, 2, 3, 63, 64} {
		for size := 1; size <= 2*k; size++ {
			d := disk.New(size)
			uses(t, "too small", d, 0, func() {
				for _, data := range []string{"", "a", mixed(1, 43*k), mixed(1, 43*k+1)} {
					refusesFormat(t, "too small", d, k, data, api.ErrArg)
				}
				refusesOpen(t, "too small", d, k, api.ErrArg)
			})
			has(t, "too small", d)
		}
	}
}

func TestSlotsThatMayNotBe(t *testing.T) { // P8.1, P1, R5
	wrong := []int{0, 65, 66, 127, 128, 256, 511, 512, 1024, 1 << 31, 1 << 32, 1 << 61, 1 << 62, 1<<62 + 1, 1<<63 - 1, math.MaxInt - 1}
	for _, k := range []int{1, 2, 32, 64, 65, 512, 1 << 31, 1 << 32, 1 << 62, math.MaxInt} {
		wrong = append(wrong, -k)
	}
	for _, size := range []int{1, 2, 3, 130, 131, 1024} {
		d := disk.New(size)
		if size >= 3 {
			formats(t, "begin", d, 1, "data")
		}
		was := all(t, d)
		for _, k := range append(wrong, math.MinInt, math.MinInt+1) {
			uses(t, "wrong k", d, 0, func() {
				refusesFormat(t, "wrong k", d, k, "", api.ErrArg)
				refusesFormat(t, "wrong k", d, k, mixed(1, 3000), api.ErrArg)
				refusesOpen(t, "wrong k", d, k, api.ErrArg)
			})
		}
		has(t, "wrong k", d, was...)
	}
}

func TestNoDisk(t *testing.T) { // P8.1
	for _, d := range []*disk.Disk{nil, disk.New(0), disk.New(1025), {}} {
		for _, k := range []int{-1, 0, 1, 2, 64, 65, math.MinInt, math.MaxInt} {
			refusesFormat(t, "no disk", d, k, "", api.ErrArg)
			refusesFormat(t, "no disk", d, k, mixed(1, 3000), api.ErrArg)
			refusesOpen(t, "no disk", d, k, api.ErrArg)
		}
	}
}

// sizes are lengths of data for slots of k sectors.
func sizes(k int) []int {
	return []int{0, 1, 42, 43, 43*k - 42, 43*k - 1, 43 * k}
}

func TestFormatOfADiskThatWasNeverWritten(t *testing.T) { // P8.1
	for _, k := range []int{1, 2, 3, 64} {
		for _, n := range sizes(k) {
			d := disk.New(2*k + 3)
			var j *Journal
			uses(t, "begin", d, 3*k+1, func() { j = formats(t, "begin", d, k, mixed(n, n)) })
			if d.Reads() != 2*k || d.Open() != 0 {
				t.Errorf("begun: %d reads, %d open, want %d, 0", d.Reads(), d.Open(), 2*k)
			}
			stands(t, "begun", j, 1, 3)
			has(t, "begun", d, slotOf(t, k, 1, mixed(n, n))...)
			d.Crash(nil)
			stands(t, "opened", opens(t, "open", d, k, found(mixed(n, n))), 1, 3)
		}
	}
}

// TestFormatOfADiskThatHasAJournal: the new one has its epoch behind the old one's, and none of its records.
func TestFormatOfADiskThatHasAJournal(t *testing.T) { // P8.1
	for _, k := range []int{1, 2, 3} {
		for _, n := range sizes(k) {
			d := disk.New(2*k + 3)
			appends(t, "old", formats(t, "old", d, k, "old"), api.OK, "a", "b")
			var j *Journal
			uses(t, "anew", d, 3*k+1, func() { j = formats(t, "anew", d, k, mixed(n, n)) })
			stands(t, "anew", j, 2, 3)
			want := slices.Concat(slotOf(t, k, 1, "old"), slotOf(t, k, 2, mixed(n, n)), logOf(t, 1, "a", "b"))
			has(t, "anew", d, want...)
			opens(t, "anew", d, k, found(mixed(n, n)))
			appends(t, "anew", j, api.OK, "c")
			opens(t, "one record over an old one", d, k, found(mixed(n, n), "c"))
			stands(t, "once more", formats(t, "once more", d, k, "third"), 3, 3)
			copy(want, slotOf(t, k, 3, "third"))
			want[2*k] = sector(t, 2, 0, "c")
			has(t, "once more", d, want...)
			opens(t, "once more", d, k, found("third"))
		}
	}
}

func TestFormatOfDataThatAreTooLong(t *testing.T) { // P8.1
	for _, k := range []int{1, 2, 64} {
		for _, n := range []int{43*k + 1, 43*k + 2, 86 * k, 1 << 16} {
			d := disk.New(2*k + 2)
			refusesFormat(t, "too long", d, k, mixed(1, n), api.ErrArg)
			has(t, "too long", d)
			refusesOpen(t, "too long", d, k, api.ErrNone)
			appends(t, "old", formats(t, "old", d, k, "old"), api.OK, "a")
			was := all(t, d)
			refusesFormat(t, "too long", d, k, mixed(1, n), api.ErrArg)
			has(t, "too long", d, was...)
			opens(t, "too long", d, k, found("old", "a"))
		}
	}
}

// TestFormatWhereTwoErrorsMayBe: slots that can't be read come ahead of all that is wrong with a write; of that, data that are too long come first.
func TestFormatWhereTwoErrorsMayBe(t *testing.T) { // P8.1, R2
	d := disk.New(5)
	lies(t, d, 0, slotOf(t, 2, last, "last")...)
	long := mixed(1, 87)
	for n := 1; n <= 4; n++ {
		d.Fail(n)
		refusesFormat(t, "no read, too long", d, 2, long, api.ErrIO)
		d.Fail(n)
		refusesFormat(t, "no read, no epoch", d, 2, "a", api.ErrIO)
	}
	uses(t, "too long, no epoch, no write", d, 4, func() {
		refusesFormat(t, "too long, no epoch, no write", d, 2, long, api.ErrArg)
	})
	uses(t, "no epoch, no write", d, 4, func() { refusesFormat(t, "no epoch, no write", d, 2, "a", api.ErrOver) })
	has(t, "refused", d, slotOf(t, 2, last, "last")...)
	opens(t, "refused", d, 2, found("last"))
}

// TestFormatGoesOnFromTheGreatestEpoch: be it that of a snapshot, or of what is left of one.
func TestFormatGoesOnFromTheGreatestEpoch(t *testing.T) { // P8.1
	for _, epoch := range []uint64{1, 255, 256, 1 << 32, 1<<63 - 1, last - 1} {
		whole := slotOf(t, 2, epoch, mixed(1, 80))
		for what, sectors := range map[string][]string{
			"whole":          whole,
			"its first one":  {whole[0], blanks(1)[0]},
			"its second one": {blanks(1)[0], whole[1]},
			"its tag alone":  {mixed(2, 48) + whole[0][48:], blanks(1)[0]},
		} {
			for slot := range 2 {
				d := disk.New(6)
				lies(t, d, 2*slot, sectors...)
				stands(t, what, formats(t, what, d, 2, "new"), epoch+1, 2)
				stands(t, what, opens(t, what, d, 2, found("new")), epoch+1, 2)
			}
		}
	}
}

func TestOpenOfADiskWithoutASnapshot(t *testing.T) { // P8.1
	whole := slotOf(t, 2, 7, mixed(1, 80))
	for what, sectors := range map[string][]string{
		"never written":        nil,
		"of epoch 0":           slotOf(t, 2, 0, "data"),
		"half of one":          whole[:1],
		"the other half":       append(blanks(1), whole[1]),
		"one torn":             {whole[0][:30] + mixed(1, 34), whole[1]},
		"of two epochs":        {whole[0], slotOf(t, 2, 8, mixed(1, 80))[1]},
		"across both slots":    append(blanks(1), whole...),
		"in the log":           append(blanks(4), whole...),
		"noise":                {mixed(1, 64), mixed(2, 64), mixed(3, 64), mixed(4, 64), mixed(5, 64)},
		"records, no snapshot": append(blanks(4), logOf(t, 1, "a", "b")...),
	} {
		d := disk.New(7)
		lies(t, d, 0, sectors...)
		for range 2 {
			// The log isn't even looked at.
			uses(t, what, d, 1+4, func() { refusesOpen(t, what, d, 2, api.ErrNone) })
		}
		has(t, what, d, sectors...)
	}
}

// TestOpenReadsEachSectorOnceAtMost: all of the slots, and the log up to the first sector that is no record.
func TestOpenReadsEachSectorOnceAtMost(t *testing.T) { // P8.1
	for _, k := range []int{1, 2, 64} {
		for _, n := range []int{1, 2, 3, 7} {
			for count := range n + 1 {
				d := disk.New(2*k + n)
				ops := texts(count, count)
				appends(t, "first", formats(t, "first", d, k, "first"), api.OK, texts(9, n)...)
				appends(t, "anew", formats(t, "anew", d, k, mixed(1, 43*k)), api.OK, ops...)
				want := all(t, d)
				reads := d.Reads()
				most := 2*k + min(count+1, n)
				uses(t, "open", d, 1+most, func() { opens(t, "open", d, k, found(mixed(1, 43*k), ops...)) })
				if d.Reads()-reads != most || d.Open() != 0 {
					t.Errorf("%d of %d: %d reads, want %d", count, n, d.Reads()-reads, most)
				}
				has(t, "open", d, want...)
			}
		}
	}
}

// TestOpenWithEachOperationFailing: it flushes first, and ends at what fails.
func TestOpenWithEachOperationFailing(t *testing.T) { // P8.1
	for _, k := range []int{1, 2, 3} {
		for n := 1; n <= 4; n++ {
			for count := range n {
				what := fmt.Sprintf("%d of %d records behind slots of %d", count, n, k)
				d := disk.New(2*k + n)
				ops := texts(count, count)
				j := formats(t, what, d, k, "data")
				appends(t, what, j, api.OK, ops...)
				d.Fail(2)
				appends(t, what, j, api.ErrIO, "open")
				most := 1 + 2*k + min(count+2, n)
				for fails := 1; fails <= most; fails++ {
					reads := d.Reads()
					d.Fail(fails)
					refusesOpen(t, what, d, k, api.ErrIO)
					open := 0
					if fails == 1 {
						open = 1
					}
					if d.Open() != open || d.Reads()-reads != fails-1 {
						t.Errorf("%s, operation %d: %d open, %d reads", what, fails, d.Open(), d.Reads()-reads)
					}
				}
				uses(t, what, d, most, func() { opens(t, what, d, k, found("data", append(ops, "open")...)) })
			}
		}
	}
}

// TestOpenTellsNothingThatACrashMayTake: what was open lies there once it is told.
func TestOpenTellsNothingThatACrashMayTake(t *testing.T) { // P8.1, P8.3
	d := disk.New(5)
	d.Write(0, sector(t, 4, 0, "open"))
	d.Write(2, sector(t, 4, 0, "record"))
	opens(t, "open", d, 1, found("open", "record"))
	if n := d.Crash(nil); n != 0 {
		t.Errorf("a crash behind an Open took %d writes", n)
	}
	opens(t, "behind a crash", d, 1, found("open", "record"))
}

func TestOpenOfTheGreaterEpoch(t *testing.T) { // P8.1
	for _, x := range [][2]uint64{{1, 2}, {2, 1}, {255, 256}, {256, 255}, {1<<63 - 1, 1 << 63}, {last, last - 1}, {last - 1, last}, {1, last}} {
		d := disk.New(7)
		newest := max(x[0], x[1])
		data := fmt.Sprint(newest)
		lies(t, d, 0, slices.Concat(slotOf(t, 2, x[0], fmt.Sprint(x[0])), slotOf(t, 2, x[1], fmt.Sprint(x[1])))...)
		lies(t, d, 4, logOf(t, min(x[0], x[1]), "elder", "ones", "only")...)
		stands(t, data, opens(t, data, d, 2, found(data)), newest, 3)
		lies(t, d, 4, logOf(t, newest, "new", "ones")...)
		stands(t, data, opens(t, data, d, 2, found(data, "new", "ones")), newest, 1)
		// Of those behind one that is no record, none is told.
		lies(t, d, 4, logOf(t, min(x[0], x[1]), "elder")...)
		stands(t, data, opens(t, data, d, 2, found(data)), newest, 3)
	}
}

func TestAppendOfTextsOfAllLengths(t *testing.T) { // P8.2
	for _, k := range []int{1, 3} {
		d := disk.New(2*k + 44)
		j := formats(t, "begin", d, k, "data")
		var want []string
		for n := range 44 {
			stands(t, "ahead", j, 1, 44-n)
			uses(t, "one more", d, 2, func() { appends(t, "one more", j, api.OK, mixed(n, n)) })
			stands(t, "behind", j, 1, 43-n)
			want = append(want, mixed(n, n))
			d.Crash(nil)
		}
		has(t, "all", d, slices.Concat(slotOf(t, k, 1, "data"), blanks(k), logOf(t, 1, want...))...)
		opens(t, "all", d, k, found("data", want...))
		appends(t, "full", j, api.ErrLog, "")
	}
}

func TestAppendOfTextsThatAreTooLong(t *testing.T) { // P8.2
	for _, n := range []int{44, 45, 64, 255, 256 + 43, 1 << 16} {
		d := disk.New(4)
		j := formats(t, "begin", d, 1, "data")
		for left := 2; left >= 0; left-- {
			uses(t, "too long", d, 0, func() { appends(t, "too long", j, api.ErrArg, mixed(1, n)) })
			stands(t, "too long", j, 1, left)
			if left > 0 {
				appends(t, "behind it", j, api.OK, "a")
			}
		}
		opens(t, "two", d, 1, found("data", "a", "a"))
		d.Fail(1)
		snapshots(t, "fails", j, "a", api.ErrIO)
		appends(t, "not good", j, api.ErrArg, mixed(1, n))
	}
}

// TestAppendToAJournalThatIsFull: it stays good, and a Snapshot makes room again.
func TestAppendToAJournalThatIsFull(t *testing.T) { // P8.2
	for _, n := range []int{1, 2, 5} {
		d := disk.New(2 + n)
		ops := texts(n, n)
		appends(t, "fill", formats(t, "begin", d, 1, "data"), api.OK, ops...)
		j := opens(t, "full", d, 1, found("data", ops...))
		was := all(t, d)
		for range 2 {
			uses(t, "full", d, 0, func() { appends(t, "full", j, api.ErrLog, "", "a", mixed(1, 43)) })
			stands(t, "full", j, 1, 0)
		}
		has(t, "full", d, was...)
		opens(t, "full", d, 1, found("data", ops...))
		snapshots(t, "full", j, "next", api.OK)
		stands(t, "next", j, 2, n)
		appends(t, "next", j, api.OK, "a")
		opens(t, "next", d, 1, found("next", "a"))
		// That it is not good is named ahead of that it is full.
		appends(t, "fill", j, api.OK, texts(1, n-1)...)
		stands(t, "full again", j, 2, 0)
		d.Fail(1)
		snapshots(t, "fails", j, "a", api.ErrIO)
		isBad(t, "full and not good", d, j, 1, 2)
	}
}

func TestSnapshotOfData(t *testing.T) { // P8.2
	for _, k := range []int{1, 2, 3, 64} {
		for _, n := range sizes(k) {
			d := disk.New(2*k + 3)
			j := formats(t, "begin", d, k, "first")
			appends(t, "begin", j, api.OK, "a", "b")
			uses(t, "second", d, k+1, func() { snapshots(t, "second", j, mixed(n, n), api.OK) })
			stands(t, "second", j, 2, 3)
			want := slices.Concat(slotOf(t, k, 1, "first"), slotOf(t, k, 2, mixed(n, n)), logOf(t, 1, "a", "b"))
			has(t, "second", d, want...)
			d.Crash(nil)
			opens(t, "second", d, k, found(mixed(n, n)))
			appends(t, "second", j, api.OK, "c")
			opens(t, "one record over an old one", d, k, found(mixed(n, n), "c"))
			uses(t, "third", d, k+1, func() { snapshots(t, "third", j, "third", api.OK) })
			stands(t, "third", j, 3, 3)
			copy(want, slotOf(t, k, 3, "third"))
			want[2*k] = sector(t, 2, 0, "c")
			has(t, "third", d, want...)
			opens(t, "third", d, k, found("third"))
		}
	}
}

func TestSnapshotOfDataThatAreTooLong(t *testing.T) { // P8.2
	for _, k := range []int{1, 2, 64} {
		for _, n := range []int{43*k + 1, 43*k + 2, 86 * k, 1 << 16} {
			d := disk.New(2*k + 2)
			j := formats(t, "begin", d, k, "data")
			appends(t, "begin", j, api.OK, "a")
			was := all(t, d)
			uses(t, "too long", d, 0, func() { snapshots(t, "too long", j, mixed(1, n), api.ErrArg) })
			stands(t, "too long", j, 1, 1)
			has(t, "too long", d, was...)
			// What was refused has not failed.
			appends(t, "behind it", j, api.OK, "b")
			opens(t, "behind it", d, k, found("data", "a", "b"))
			snapshots(t, "behind it", j, "next", api.OK)
			opens(t, "behind it", d, k, found("next"))
		}
	}
}

// TestSnapshotAtTheLastEpoch: there is none behind it, and nothing changes.
func TestSnapshotAtTheLastEpoch(t *testing.T) { // P8.2
	d := disk.New(7)
	lies(t, d, 0, slotOf(t, 2, last-1, "one ahead")...)
	j := opens(t, "one ahead", d, 2, found("one ahead"))
	snapshots(t, "last", j, "last", api.OK)
	stands(t, "last", j, last, 3)
	appends(t, "last", j, api.OK, "a")
	for _, x := range []*Journal{j, opens(t, "last", d, 2, found("last", "a"))} {
		was := all(t, d)
		uses(t, "over", d, 0, func() {
			snapshots(t, "over", x, "", api.ErrOver)
			snapshots(t, "over", x, mixed(1, 86), api.ErrOver)
			snapshots(t, "over and too long", x, mixed(1, 87), api.ErrArg)
		})
		stands(t, "over", x, last, 2)
		has(t, "over", d, was...)
	}
	appends(t, "over", j, api.OK, "b", "c")
	appends(t, "full", j, api.ErrLog, "d")
	snapshots(t, "full", j, "a", api.ErrOver)
	stands(t, "full", j, last, 0)
	opens(t, "over", d, 2, found("last", "a", "b", "c"))
	refusesFormat(t, "over", d, 2, "a", api.ErrOver)
	opens(t, "over", d, 2, found("last", "a", "b", "c"))
}

// TestThatItIsNotGoodIsNamedAheadOfTheLastEpoch: as it is ahead of a log that is full.
func TestThatItIsNotGoodIsNamedAheadOfTheLastEpoch(t *testing.T) { // P8.2, R2
	d := disk.New(4)
	lies(t, d, 0, slotOf(t, 1, last, "last")...)
	j := opens(t, "last", d, 1, found("last"))
	d.Fail(1)
	appends(t, "fails", j, api.ErrIO, "a")
	isBad(t, "not good", d, j, 1, last)
}

// TestEpochIsTheSnapshots: another one than the greatest that a sector tells, where something is left of a Snapshot that did not come through.
func TestEpochIsTheSnapshots(t *testing.T) { // P8.2
	for _, rest := range []uint64{6, 7, 300, last - 1, last} {
		d := disk.New(6)
		lies(t, d, 0, append(slotOf(t, 2, 5, "whole"), slotOf(t, 2, rest, "half")[0])...)
		lies(t, d, 4, logOf(t, 5, "a")...)
		j := opens(t, "half", d, 2, found("whole", "a"))
		stands(t, "half", j, 5, 1)
		appends(t, "half", j, api.OK, "b")
		opens(t, "half", d, 2, found("whole", "a", "b"))
		if rest == last {
			snapshots(t, "over", j, "next", api.ErrOver)
			stands(t, "over", j, 5, 0)
			opens(t, "over", d, 2, found("whole", "a", "b"))
			continue
		}
		snapshots(t, "next", j, "next", api.OK)
		stands(t, "next", j, rest+1, 2)
		appends(t, "next", j, api.OK, "c")
		stands(t, "next", opens(t, "next", d, 2, found("next", "c")), rest+1, 1)
	}
}

// past is a way in which a journal came to be, and what it has by then.
type past struct {
	name  string
	live  func(t *testing.T, d *disk.Disk, k int) *Journal
	found api.Found
	epoch uint64
}

// broken lets j's disk fail in the n-th operation of a call, and crash behind it, if there are fates.
func broken(t *testing.T, d *disk.Disk, n int, call func() api.Errno, fates ...api.Fate) {
	t.Helper()
	d.Fail(n)
	if err := call(); err != api.ErrIO {
		t.Fatalf("operation %d: error %d", n, err)
	}
	if len(fates) > 0 {
		d.Crash(fates)
	}
}

// reopened is the journal that the disk has behind something broken.
func reopened(t *testing.T, d *disk.Disk, k int) *Journal {
	t.Helper()
	j, _, err := Open(d, k)
	if err != api.OK {
		t.Fatalf("open: error %d", err)
	}
	return j
}

// pasts are of journals whose log has three sectors.
func pasts() []past {
	begun := func(t *testing.T, d *disk.Disk, k int, ops ...string) *Journal {
		t.Helper()
		j := formats(t, "begin", d, k, "first")
		appends(t, "begin", j, api.OK, ops...)
		return j
	}
	second := func(t *testing.T, d *disk.Disk, k int, ops ...string) *Journal {
		t.Helper()
		j := begun(t, d, k, "a", "b")
		snapshots(t, "second", j, "second", api.OK)
		appends(t, "second", j, api.OK, ops...)
		return j
	}
	return []past{
		{"begun", func(t *testing.T, d *disk.Disk, k int) *Journal { return begun(t, d, k) }, found("first"), 1},
		{"with records", func(t *testing.T, d *disk.Disk, k int) *Journal { return begun(t, d, k, "a", "") }, found("first", "a", ""), 1},
		{"full", func(t *testing.T, d *disk.Disk, k int) *Journal { return begun(t, d, k, "a", "b", "c") }, found("first", "a", "b", "c"), 1},
		{"of a second snapshot", func(t *testing.T, d *disk.Disk, k int) *Journal { return second(t, d, k) }, found("second"), 2},
		{"with a record over an old one", func(t *testing.T, d *disk.Disk, k int) *Journal { return second(t, d, k, "c") }, found("second", "c"), 2},
		{"of a third snapshot", func(t *testing.T, d *disk.Disk, k int) *Journal {
			j := second(t, d, k, "c", "d", "e")
			snapshots(t, "third", j, "", api.OK)
			appends(t, "third", j, api.OK, "f")
			return j
		}, found("", "f"), 3},
		{"of epoch 255", func(t *testing.T, d *disk.Disk, k int) *Journal {
			lies(t, d, 0, slotOf(t, k, 255, "greatest byte")...)
			return opens(t, "epoch 255", d, k, found("greatest byte"))
		}, found("greatest byte"), 255},
		{"begun anew", func(t *testing.T, d *disk.Disk, k int) *Journal {
			begun(t, d, k, "a", "b")
			return formats(t, "anew", d, k, "anew")
		}, found("anew"), 2},
		{"behind a torn record", func(t *testing.T, d *disk.Disk, k int) *Journal {
			j := begun(t, d, k, "a")
			broken(t, d, 2, func() api.Errno { return j.Append("torn") }, api.Fate{Kind: 2, At: 30})
			return reopened(t, d, k)
		}, found("first", "a"), 1},
		{"behind a torn snapshot", func(t *testing.T, d *disk.Disk, k int) *Journal {
			j := begun(t, d, k, "a")
			fates := append(slices.Repeat([]api.Fate{{Kind: 1}}, k-1), api.Fate{Kind: 2, At: 30})
			broken(t, d, k+1, func() api.Errno { return j.Snapshot("torn") }, fates...)
			return reopened(t, d, k)
		}, found("first", "a"), 1},
		{"behind a record's fault", func(t *testing.T, d *disk.Disk, k int) *Journal {
			j := begun(t, d, k, "a")
			broken(t, d, 2, func() api.Errno { return j.Append("b") })
			return reopened(t, d, k)
		}, found("first", "a", "b"), 1},
		{"behind a snapshot's fault", func(t *testing.T, d *disk.Disk, k int) *Journal {
			j := begun(t, d, k, "a")
			broken(t, d, k+1, func() api.Errno { return j.Snapshot("late") })
			return reopened(t, d, k)
		}, found("late"), 2},
	}
}

func TestPasts(t *testing.T) { // P8.3
	for _, p := range pasts() {
		for k := 1; k <= 3; k++ {
			d := disk.New(2*k + 3)
			stands(t, p.name, p.live(t, d, k), p.epoch, 3-len(p.found.Ops))
			for range 3 {
				stands(t, p.name, opens(t, p.name, d, k, p.found), p.epoch, 3-len(p.found.Ops))
			}
		}
	}
}

// change is what may be done to a journal: how many operations it takes ahead of its first write, how many writes, and what the journal has behind it.
type change struct {
	name          string
	reads, writes int
	call          func(d *disk.Disk, j *Journal) api.Errno
	after         func(was api.Found) api.Found
}

func changes(k int) []change {
	whole := mixed(3, 43*k)
	return []change{
		{"Append", 0, 1,
			func(d *disk.Disk, j *Journal) api.Errno { return j.Append("op") },
			func(was api.Found) api.Found { return found(was.Data, append(slices.Clone(was.Ops), "op")...) }},
		{"Snapshot", 0, k,
			func(d *disk.Disk, j *Journal) api.Errno { return j.Snapshot(whole) },
			func(was api.Found) api.Found { return found(whole) }},
		{"Format", 2 * k, k,
			func(d *disk.Disk, j *Journal) api.Errno { _, err := Format(d, k, whole); return err },
			func(was api.Found) api.Found { return found(whole) }},
	}
}

// operations is how many a change takes: the last one is a flush.
func (c change) operations() int {
	return c.reads + c.writes + 1
}

// eachChange calls look with all changes to all journals that may be changed so, and with each operation of those.
func eachChange(t *testing.T, k int, look func(what string, p past, c change, fails int)) {
	t.Helper()
	for _, p := range pasts() {
		for _, c := range changes(k) {
			if c.name == "Append" && len(p.found.Ops) == 3 {
				continue
			}
			for fails := 1; fails <= c.operations(); fails++ {
				look(fmt.Sprintf("%s of one %s, of slots of %d, operation %d", c.name, p.name, k, fails), p, c, fails)
			}
		}
	}
}

// goesOn looks at a journal that was found again: more may be done to it, and it is told.
func goesOn(t *testing.T, what string, d *disk.Disk, k int, want api.Found) {
	t.Helper()
	j := opens(t, what, d, k, want)
	opens(t, what+", twice", d, k, want)
	d.Crash(nil)
	opens(t, what+", behind a crash", d, k, want)
	if j.Left() > 0 {
		appends(t, what, j, api.OK, "more")
		want = found(want.Data, append(slices.Clone(want.Ops), "more")...)
		opens(t, what+", one more", d, k, want)
	}
	epoch := j.Epoch()
	snapshots(t, what, j, "next", api.OK)
	if j.Epoch() <= epoch {
		t.Errorf("%s: epoch %d behind %d", what, j.Epoch(), epoch)
	}
	opens(t, what+", next", d, k, found("next"))
	appends(t, what, j, api.OK, "its record")
	opens(t, what+", next", d, k, found("next", "its record"))
}

// TestAFaultWithoutACrash: in each operation of each change. What was written lies there once Open has flushed.
func TestAFaultWithoutACrash(t *testing.T) { // P8.1, P8.2, P8.3
	for k := 1; k <= 3; k++ {
		eachChange(t, k, func(what string, p past, c change, fails int) {
			d := disk.New(2*k + 3)
			j := p.live(t, d, k)
			was := all(t, d)
			broken(t, d, fails, func() api.Errno { return c.call(d, j) })
			if open := max(fails-1-c.reads, 0); d.Open() != open {
				t.Errorf("%s: %d open, want %d", what, d.Open(), open)
			}
			if c.name != "Format" {
				isBad(t, what, d, j, k, p.epoch)
			}
			want := p.found
			switch {
			case fails == c.operations():
				want = c.after(p.found)
			case fails <= c.reads+1:
				has(t, what, d, was...)
			}
			goesOn(t, what, d, k, want)
		})
	}
}

// TestAChangeThatDoesNotFail: the operation behind its last one is none of it, and no crash takes it.
func TestAChangeThatDoesNotFail(t *testing.T) { // P8.1, P8.2, P8.3
	for k := 1; k <= 3; k++ {
		eachChange(t, k, func(what string, p past, c change, fails int) {
			if fails > 1 {
				return
			}
			d := disk.New(2*k + 3)
			j := p.live(t, d, k)
			uses(t, what, d, c.operations(), func() {
				if err := c.call(d, j); err != api.OK {
					t.Errorf("%s: error %d", what, err)
				}
			})
			d.Crash(nil)
			goesOn(t, what, d, k, c.after(p.found))
		})
	}
}

// fates are what may become of one write: lost, whole, or torn in each place, or in some alone.
func fates(places ...int) []api.Fate {
	l := []api.Fate{{Kind: 0}, {Kind: 1}}
	for _, at := range places {
		l = append(l, api.Fate{Kind: 2, At: at})
	}
	return l
}

// rows are all rows of so many of these fates.
func rows(l []api.Fate, n int) [][]api.Fate {
	if n == 0 {
		return [][]api.Fate{nil}
	}
	var all [][]api.Fate
	for _, row := range rows(l, n-1) {
		for _, f := range l {
			all = append(all, append(slices.Clone(row), f))
		}
	}
	return all
}

// leaves is what a sector says behind a crash in which one write was open.
func leaves(old, fresh string, f api.Fate) string {
	kept := [3]int{0, 64, f.At}[f.Kind]
	return fresh[:kept] + old[kept:]
}

// crashed looks at a change that fails at that operation, with a crash behind it: the journal has what it had ahead of the change, or what it was to have, if all of it came to lie there.
func crashed(t *testing.T, what string, k int, p past, c change, fails int, row []api.Fate) {
	t.Helper()
	what = fmt.Sprintf("%s, fates %v", what, row)
	d := disk.New(2*k + 3)
	j := p.live(t, d, k)
	was := all(t, d)
	broken(t, d, fails, func() api.Errno { return c.call(d, j) })
	fresh := all(t, d)
	want := p.found
	if fails == c.operations() {
		want = c.after(p.found)
	}
	written := 0
	for at := range was {
		if was[at] == fresh[at] {
			continue
		}
		if leaves(was[at], fresh[at], row[written]) != fresh[at] {
			want = p.found
		}
		written++
	}
	if written != d.Open() {
		t.Errorf("%s: %d sectors written, %d open", what, written, d.Open())
	}
	d.Crash(row)
	goesOn(t, what, d, k, want)
}

// TestACrashInEachPlaceOfAChange: with each write torn in each place, of several of them in some.
func TestACrashInEachPlaceOfAChange(t *testing.T) { // P8.3
	every := make([]int, 65)
	for at := range every {
		every[at] = at
	}
	some := [][]int{nil, every, {1, 20, 48, 55, 63}, {55}}
	for k := 1; k <= 3; k++ {
		eachChange(t, k, func(what string, p past, c change, fails int) {
			if fails <= c.reads {
				return // nothing was written, as behind a fault of the first write
			}
			for _, row := range rows(fates(some[c.writes]...), fails-1-c.reads) {
				crashed(t, what, k, p, c, fails, row)
			}
		})
	}
}

// TestACrashBehindAFaultOfOpen: as long as no Open is done, what was under way may be there or not; once one is, it stays so.
func TestACrashBehindAFaultOfOpen(t *testing.T) { // P8.3
	for k := 1; k <= 2; k++ {
		eachChange(t, k, func(what string, p past, c change, fails int) {
			for at := 1; at <= 2; at++ { // the flush, or the read behind it
				for _, f := range fates(1, 48) {
					d := disk.New(2*k + 3)
					j := p.live(t, d, k)
					broken(t, d, fails, func() api.Errno { return c.call(d, j) })
					d.Fail(at)
					refusesOpen(t, what, d, k, api.ErrIO)
					d.Crash(slices.Repeat([]api.Fate{f}, k))
					want := p.found
					// Behind a flush nothing is open, so that the crash takes nothing. A write that is torn ahead of its tag is not whole.
					if fails == c.operations() && (at == 2 || f.Kind == 1) {
						want = c.after(p.found)
					}
					goesOn(t, what, d, k, want)
				}
			}
		})
	}
}

// TestLongRowsOfFaultsAndCrashes: what was told as done is found, or with it what was under way; never less, nor anything else.
func TestLongRowsOfFaultsAndCrashes(t *testing.T) { // P8.3
	for seed := range 40 {
		k, n := seed%4+1, seed%5+1
		d := disk.New(2*k + n)
		x := uint64(seed)*977 + 12345
		for range 20 {
			x = drawn(x)
		}
		told := found("begin")
		j := formats(t, "begin", d, k, told.Data)
		for step := range 800 {
			what := fmt.Sprintf("seed %d, step %d", seed, step)
			x = drawn(x)
			if x>>40%3 == 0 {
				d.Fail(int(x>>44%uint64(3*k+1)) + 1)
			}
			perhaps, op, data := told, mixed(step, int(x>>8%44)), mixed(step, int(x>>16%uint64(43*k+1)))
			var err api.Errno
			switch {
			case x%8 < 5 && len(told.Ops) < n:
				err = j.Append(op)
				perhaps = found(told.Data, append(slices.Clone(told.Ops), op)...)
			case x%8 == 7:
				var anew *Journal
				anew, err = Format(d, k, data)
				if anew != nil {
					j = anew
				}
				perhaps = found(data)
			default:
				err = j.Snapshot(data)
				perhaps = found(data)
			}
			switch err {
			case api.OK:
				told = perhaps
			case api.ErrIO:
			default:
				t.Fatalf("%s: error %d", what, err)
			}
			if err != api.OK || x>>50%8 == 0 {
				j, told = recovered(t, what, d, k, x, told, perhaps)
			}
			if j.Left() != n-len(told.Ops) || !j.Good() {
				t.Fatalf("%s: Left %d of %d, good: %t", what, j.Left(), n-len(told.Ops), j.Good())
			}
		}
	}
}

// recovered opens a disk, over crashes and faults of Open itself, and looks whether it tells one of these; told are a journal, and which one it was.
func recovered(t *testing.T, what string, d *disk.Disk, k int, x uint64, told, perhaps api.Found) (*Journal, api.Found) {
	t.Helper()
	for {
		x = drawn(x)
		d.Fail(0)
		if x%4 > 0 {
			l := make([]api.Fate, k)
			for i := range l {
				x = drawn(x)
				l[i] = api.Fate{Kind: int(x >> 5 % 3), At: int(x >> 16 % 65)}
			}
			d.Crash(l)
		}
		x = drawn(x)
		if x%2 == 0 {
			d.Fail(int(x>>8%uint64(2*k+4)) + 1)
		}
		j, got, err := Open(d, k)
		d.Fail(0)
		switch {
		case err == api.ErrIO && j == nil && reflect.DeepEqual(got, api.Found{}):
			continue
		case err != api.OK || !same(got, told) && !same(got, perhaps):
			t.Fatalf("%s: Open: %q, error %d, want %q or %q", what, got, err, told, perhaps)
		}
		opens(t, what+", twice", d, k, got)
		d.Crash(nil)
		opens(t, what+", behind a crash", d, k, got)
		return j, found(got.Data, got.Ops...)
	}
}

// TestWhatIsHandedInIsItsOwners: bytes of which a text was made may be changed.
func TestWhatIsHandedInIsItsOwners(t *testing.T) { // R3
	for _, n := range []int{1, 20, 43} {
		d := disk.New(5)
		handed := func(seed int, take func(s string)) {
			bytes := []byte(mixed(seed, n))
			s := string(bytes)
			take(s)
			clear(bytes)
			if s != mixed(seed, n) {
				t.Errorf("a call changed what was handed in")
			}
		}
		var j *Journal
		handed(1, func(s string) { j = formats(t, "begin", d, 1, s) })
		handed(2, func(s string) { appends(t, "first", j, api.OK, s) })
		opens(t, "begun", d, 1, found(mixed(1, n), mixed(2, n)))
		handed(3, func(s string) { snapshots(t, "next", j, s, api.OK) })
		handed(4, func(s string) { appends(t, "next", j, api.OK, s) })
		opens(t, "next", d, 1, found(mixed(3, n), mixed(4, n)))
	}
}

// TestWhatIsToldIsItsOwners: neither does the journal see what becomes of it, nor does it see what becomes of the journal.
func TestWhatIsToldIsItsOwners(t *testing.T) { // R3
	d := disk.New(6)
	appends(t, "begin", formats(t, "begin", d, 1, "data"), api.OK, "a", "b")
	j, told, _ := Open(d, 1)
	_, again, _ := Open(d, 1)
	want := found("data", "a", "b")
	for i := range told.Ops {
		told.Ops[i] = "x"
	}
	told.Ops = append(told.Ops[:1], "y", "z")
	told.Data = "x"
	if !same(again, want) {
		t.Errorf("what was told became %q", again)
	}
	stands(t, "changed", j, 1, 2)
	appends(t, "changed", j, api.OK, "c")
	opens(t, "changed", d, 1, found("data", "a", "b", "c"))
	snapshots(t, "next", j, again.Data, api.OK) // a text may be put down again as it was told
	appends(t, "next", j, api.OK, again.Ops...)
	opens(t, "next", d, 1, want)
	lies(t, d, 0, texts64(6)...)
	if !same(again, want) || !same(told, found("x", "x", "y", "z")) {
		t.Errorf("what was told became %q, and %q", again, told)
	}
}

// texts64 are n texts of just a sector's length.
func texts64(n int) []string {
	l := make([]string, n)
	for i := range l {
		l[i] = mixed(i, 64)
	}
	return l
}

func TestSeveralJournals(t *testing.T) { // R4
	d, e := disk.New(5), disk.New(5)
	a, b := formats(t, "a", d, 1, "of a"), formats(t, "b", e, 2, "of b")
	appends(t, "a", a, api.OK, "first of a")
	stands(t, "b", b, 1, 1)
	d.Fail(1)
	appends(t, "a", a, api.ErrIO, "second of a")
	appends(t, "b", b, api.OK, "first of b")
	stands(t, "b", b, 1, 0)
	snapshots(t, "b", b, "of b again", api.OK)
	isBad(t, "a", d, a, 1, 1)
	opens(t, "a", d, 1, found("of a", "first of a"))
	opens(t, "b", e, 2, found("of b again"))
	// One that is not good stays so, whatever another one of its disk does.
	isBad(t, "a", d, a, 1, 1)
}

func TestTheDiskLosesItsSectors(t *testing.T) { // P1: a disk's owner may do so
	for _, snapshot := range []bool{false, true} {
		d := disk.New(4)
		j := formats(t, "begin", d, 1, "data")
		*d = disk.Disk{}
		if snapshot {
			snapshots(t, "no sectors", j, "a", api.ErrIO)
		} else {
			appends(t, "no sectors", j, api.ErrIO, "a")
		}
		if j.Good() || j.Left() != 0 || j.Epoch() != 1 {
			t.Errorf("no sectors: good: %t, Left %d, Epoch %d", j.Good(), j.Left(), j.Epoch())
		}
		refusesOpen(t, "no sectors", d, 1, api.ErrArg)
		refusesFormat(t, "no sectors", d, 1, "a", api.ErrArg)
	}
}

// TestNoJournal: a nil one, and a zero one, of which the chapter says nothing: it has no disk, and is as a nil one.
func TestNoJournal(t *testing.T) { // P1, R1
	for _, j := range []*Journal{nil, {}} {
		for range 2 {
			for _, n := range []int{0, 1, 43, 44, 3000} {
				appends(t, "none", j, api.ErrArg, mixed(1, n))
				snapshots(t, "none", j, mixed(1, n), api.ErrArg)
			}
			if j.Left() != 0 || j.Good() || j.Epoch() != 0 {
				t.Errorf("none: Left %d, good: %t, Epoch %d", j.Left(), j.Good(), j.Epoch())
			}
		}
	}
}

// TestTheLogIsPromotedWithinAlone: by its Scan and Start, a caller could part it from its snapshot.
func TestTheLogIsPromotedWithinAlone(t *testing.T) {
	var names []string
	for m := range reflect.TypeFor[*Journal]().Methods() {
		names = append(names, m.Name)
	}
	if want := []string{"Append", "Epoch", "Good", "Left", "Snapshot"}; !slices.Equal(names, want) {
		t.Errorf("a journal has %v, want %v", names, want)
	}
	for _, f := range reflect.VisibleFields(reflect.TypeFor[Journal]()) {
		if f.IsExported() {
			t.Errorf("a journal's field %s is its callers' too", f.Name)
		}
	}
}

// model is a journal as the chapter's words tell it, one by one.
type model struct {
	d    *disk.Disk
	k    int
	good bool
	// epoch is the snapshot's, newest that of slots, slot the one that is kept (-1: none), count how many records there are.
	epoch, newest uint64
	slot, count   int
}

// slots reads both slots; false if one of their sectors can't be read.
func (m *model) slots() (data string, ok bool) {
	m.slot = -1
	var l []string
	for at := range 2 * m.k {
		s, err := m.d.Read(at)
		if err != api.OK {
			return "", false
		}
		l = append(l, s)
		epoch, _, _ := frame.Tag(s)
		m.newest = max(m.newest, epoch)
	}
	for slot := range 2 {
		epoch, _, _ := frame.Tag(l[slot*m.k])
		whole, text := epoch > 0, ""
		for i, s := range l[slot*m.k:][:m.k] {
			whole = whole && frame.Whole(s, epoch, uint64(i))
			c, _ := frame.Read(s)
			text += c.Payload
		}
		if whole && (m.slot < 0 || epoch >= m.epoch) {
			m.slot, m.epoch, data = slot, epoch, text
		}
	}
	return data, true
}

// write writes a slot, with which the log has no records.
func (m *model) write(data string) api.Errno {
	if len(data) > 43*m.k {
		return api.ErrArg
	}
	if m.newest == last {
		return api.ErrOver
	}
	m.newest++
	to := 0
	if m.slot == 0 {
		to = 1
	}
	for i := range m.k {
		n := min(len(data), 43)
		s, _ := frame.Make(api.Cell{Payload: data[:n], Epoch: m.newest, Number: uint64(i)})
		data = data[n:]
		if m.d.Write(to*m.k+i, s) != api.OK {
			return api.ErrIO
		}
	}
	if m.d.Flush() != api.OK {
		return api.ErrIO
	}
	m.slot, m.epoch, m.count = to, m.newest, 0
	return api.OK
}

func modelFormat(d *disk.Disk, k int, data string) (*model, api.Errno) {
	if k < 1 || k > 64 || d.Len() <= 2*k {
		return nil, api.ErrArg
	}
	m := &model{d: d, k: k, good: true}
	if _, ok := m.slots(); !ok {
		return nil, api.ErrIO
	}
	if err := m.write(data); err != api.OK {
		return nil, err
	}
	return m, api.OK
}

func modelOpen(d *disk.Disk, k int) (*model, api.Found, api.Errno) {
	if k < 1 || k > 64 || d.Len() <= 2*k {
		return nil, api.Found{}, api.ErrArg
	}
	if d.Flush() != api.OK {
		return nil, api.Found{}, api.ErrIO
	}
	m := &model{d: d, k: k, good: true}
	data, ok := m.slots()
	if !ok {
		return nil, api.Found{}, api.ErrIO
	}
	if m.slot < 0 {
		return nil, api.Found{}, api.ErrNone
	}
	var ops []string
	for 2*k+len(ops) < d.Len() {
		s, err := d.Read(2*k + len(ops))
		if err != api.OK {
			return nil, api.Found{}, api.ErrIO
		}
		if !frame.Whole(s, m.epoch, uint64(len(ops))) {
			break
		}
		c, _ := frame.Read(s)
		ops = append(ops, c.Payload)
	}
	m.count = len(ops)
	return m, found(data, ops...), api.OK
}

func (m *model) Append(op string) api.Errno {
	if m == nil || len(op) > 43 {
		return api.ErrArg
	}
	if !m.good {
		return api.ErrIO
	}
	if m.Left() == 0 {
		return api.ErrLog
	}
	s, _ := frame.Make(api.Cell{Payload: op, Epoch: m.epoch, Number: uint64(m.count)})
	if m.d.Write(2*m.k+m.count, s) != api.OK || m.d.Flush() != api.OK {
		m.good = false
		return api.ErrIO
	}
	m.count++
	return api.OK
}

func (m *model) Snapshot(data string) api.Errno {
	if m == nil || len(data) > 43*m.k {
		return api.ErrArg
	}
	if !m.good {
		return api.ErrIO
	}
	err := m.write(data)
	m.good = err == api.OK || err == api.ErrOver
	return err
}

func (m *model) Left() int {
	if m == nil || !m.good {
		return 0
	}
	return m.d.Len() - 2*m.k - m.count
}

func (m *model) Epoch() uint64 {
	if m == nil {
		return 0
	}
	return m.epoch
}

// meddled is a sector of some kind that another hand may leave on a journal's disk.
func meddled(t *testing.T, x uint64, n int, epoch uint64) string {
	t.Helper()
	whole := sector(t, epoch-2+x>>4%5, x>>8%uint64(n+1), mixed(int(x>>12%100), int(x>>20%44)))
	switch x % 5 {
	case 0:
		return mixed(int(x>>30%1000), 64)
	case 1:
		at := int(x >> 32 % 64)
		return whole[:at] + string([]byte{byte(x >> 40)}) + whole[at+1:]
	default:
		return whole
	}
}

// twins are a journal and its model, each with a disk of its own.
type twins struct {
	d, twin *disk.Disk
	k       int
	j       *Journal
	m       *model
}

// step does one thing to both, and looks whether they tell the same.
func (w *twins) step(t *testing.T, what string, x uint64, seed int) {
	t.Helper()
	y := x >> 8
	data := mixed(seed, int(y%uint64(43*w.k+2)))
	k := w.k
	if y>>32%16 == 0 {
		k = int(y>>36%5) - 1
	}
	var err, want api.Errno
	switch x % 32 {
	case 0:
		j, failed := Format(w.d, k, data)
		m, must := modelFormat(w.twin, k, data)
		w.takes(t, what, j, m)
		err, want = failed, must
	case 1, 2, 3, 4, 5:
		j, got, failed := Open(w.d, k)
		m, found, must := modelOpen(w.twin, k)
		if !same(got, found) {
			t.Errorf("%s: found %q, want %q", what, got, found)
		}
		w.takes(t, what, j, m)
		err, want = failed, must
	case 6, 7, 8, 9, 10, 11:
		err, want = w.j.Snapshot(data), w.m.Snapshot(data)
	case 12, 13, 14, 15:
		n := int(y%uint64(3*w.k+4)) - 1
		w.d.Fail(n)
		w.twin.Fail(n)
	case 16, 17, 18:
		l := make([]api.Fate, y%uint64(2*w.k+2))
		for i := range l {
			x = drawn(x)
			l[i] = api.Fate{Kind: int(x >> 5 % 3), At: int(x >> 16 % 65)}
		}
		w.d.Crash(l)
		w.twin.Crash(l)
	case 19:
		over := w.m.Epoch()
		if y>>20%60 == 0 {
			over = last - 1
		}
		text, place := meddled(t, y, w.d.Len(), over), int(y>>50%uint64(w.d.Len()))
		w.d.Write(place, text)
		w.twin.Write(place, text)
	default:
		op := mixed(seed, int(y%46))
		err, want = w.j.Append(op), w.m.Append(op)
	}
	if err != want {
		t.Errorf("%s: error %d, want %d", what, err, want)
	}
}

// takes makes those that were told the twins, if they are some.
func (w *twins) takes(t *testing.T, what string, j *Journal, m *model) {
	t.Helper()
	if (j == nil) != (m == nil) {
		t.Fatalf("%s: a journal: %t, want %t", what, j != nil, m != nil)
	}
	// Now and then a nil one is taken too: those behind it are then called of none.
	if j != nil || w.d.Reads()%3 == 0 {
		w.j, w.m = j, m
	}
}

// areAlike looks at what both tell of how they stand.
func (w *twins) areAlike(t *testing.T, what string) {
	t.Helper()
	if good := w.m != nil && w.m.good; w.j.Good() != good || w.j.Left() != w.m.Left() || w.j.Epoch() != w.m.Epoch() {
		t.Errorf("%s: good: %t, Left %d, Epoch %d, want %t, %d, %d", what, w.j.Good(), w.j.Left(), w.j.Epoch(), good, w.m.Left(), w.m.Epoch())
	}
	if w.d.Open() != w.twin.Open() || w.d.Reads() != w.twin.Reads() {
		t.Errorf("%s: %d open, %d reads, want %d, %d", what, w.d.Open(), w.d.Reads(), w.twin.Open(), w.twin.Reads())
	}
}

func TestLongRowsOfCalls(t *testing.T) { // P8.1, P8.2
	for seed := range 60 {
		k, n := seed%3+1, seed%5+1
		w := &twins{d: disk.New(2*k + n), twin: disk.New(2*k + n), k: k}
		x := uint64(seed)*977 + 12345
		for range 20 {
			x = drawn(x)
		}
		for step := range 1000 {
			x = drawn(x)
			what := fmt.Sprintf("seed %d, step %d", seed, step)
			w.step(t, what, x, step)
			w.areAlike(t, what)
			if t.Failed() {
				return
			}
		}
		w.d.Fail(0)
		w.twin.Fail(0)
		has(t, fmt.Sprintf("seed %d", seed), w.d, all(t, w.twin)...)
	}
}
