package disk

import (
	"fmt"
	"math"
	"strings"
	"testing"

	"horarium/api"
)

const size = 64

var zeros = strings.Repeat("\x00", size)

// full is a sector's text of that byte alone.
func full(c string) string {
	return strings.Repeat(c, size)
}

// mixed is a text of n bytes of all kinds, another one for each seed, the same in every run.
func mixed(seed, n int) string {
	b := make([]byte, n)
	x := uint64(88172645463325252) + uint64(seed)
	for i := range b {
		x = drawn(x)
		b[i] = byte(x >> 24)
	}
	return string(b)
}

// drawn is the number behind x in a row that looks like chance, and is none.
func drawn(x uint64) uint64 {
	x ^= x << 13
	x ^= x >> 7
	return x ^ x<<17
}

func made(t *testing.T, n int) *Disk {
	t.Helper()
	d := New(n)
	if d == nil {
		t.Fatalf("New(%d): nil", n)
	}
	return d
}

// says looks at what Read tells of a sector that there is.
func says(t *testing.T, what string, d *Disk, at int, want string) {
	t.Helper()
	if got, err := d.Read(at); got != want || err != api.OK {
		t.Errorf("%s: Read(%d): %q, error %d, want %q", what, at, got, err, want)
	}
}

// writes looks on while all texts are written to the sector, in their order.
func writes(t *testing.T, d *Disk, at int, texts ...string) {
	t.Helper()
	for _, s := range texts {
		if err := d.Write(at, s); err != api.OK {
			t.Errorf("Write(%d, %q): error %d", at, s, err)
		}
	}
}

func flushes(t *testing.T, d *Disk) {
	t.Helper()
	if err := d.Flush(); err != api.OK {
		t.Errorf("Flush: error %d", err)
	}
}

func crashes(t *testing.T, d *Disk, want int, l ...api.Fate) {
	t.Helper()
	if got := d.Crash(l); got != want {
		t.Errorf("Crash(%v): %d, want %d", l, got, want)
	}
}

// counted looks at Open and Reads.
func counted(t *testing.T, what string, d *Disk, open, reads int) {
	t.Helper()
	if d.Open() != open || d.Reads() != reads {
		t.Errorf("%s: %d open, %d reads, want %d, %d", what, d.Open(), d.Reads(), open, reads)
	}
}

// is looks at an error.
func is(t *testing.T, what string, got, want api.Errno) {
	t.Helper()
	if got != want {
		t.Errorf("%s: error %d, want %d", what, got, want)
	}
}

// refusesRead looks at a Read that must be an error and tell nothing.
func refusesRead(t *testing.T, d *Disk, at int, want api.Errno) {
	t.Helper()
	if s, err := d.Read(at); s != "" || err != want {
		t.Errorf("Read(%d): %q, error %d, want nothing, %d", at, s, err, want)
	}
}

// outside are numbers that no sector of a disk of n has.
func outside(n int) []int {
	return []int{-1, n, n + 1, -n, -2, n + 63, n * 64, -1 << 31, 1 << 31, 1 << 32, math.MinInt, math.MinInt + 1, math.MaxInt, math.MaxInt - 1}
}

func TestNewOfTheNumbersThatMayBe(t *testing.T) { // P5.1
	for _, n := range []int{1, 2, 3, 64, 1023, 1024} {
		d := made(t, n)
		if d.Len() != n {
			t.Errorf("Len of a disk of %d: %d", n, d.Len())
		}
		counted(t, "new", d, 0, 0)
		for at := range n {
			says(t, "new", d, at, zeros)
		}
		if writes(t, d, 0, full("a")); d.Len() != n {
			t.Errorf("Len of a disk of %d, behind a write: %d", n, d.Len())
		}
	}
}

func TestNewOfOtherNumbers(t *testing.T) { // P5.1, R5
	for _, n := range []int{0, -1, -2, -1024, 1025, 1026, 2048, 1 << 16, 1 << 31, 1 << 32, 1<<32 + 1, math.MinInt, math.MaxInt} {
		if d := New(n); d != nil {
			t.Errorf("New(%d): a disk of %d", n, d.Len())
		}
	}
}

func TestTheFirstAndTheLastSector(t *testing.T) { // P5.1
	for _, n := range []int{1, 2, 3, 1024} {
		d := made(t, n)
		first, last := mixed(1, size), mixed(2, size)
		writes(t, d, 0, first)
		writes(t, d, n-1, last)
		if n == 1 {
			first = last
		}
		for range 2 {
			says(t, "first", d, 0, first)
			says(t, "last", d, n-1, last)
			for at := 1; at < n-1; at++ {
				says(t, "between", d, at, zeros)
			}
			flushes(t, d)
		}
	}
}

func TestEachSectorIsOneByItself(t *testing.T) { // P5.1
	d := made(t, 1024)
	for at := range 1024 {
		writes(t, d, at, mixed(at, size))
	}
	for range 2 {
		for at := range 1024 {
			says(t, "each", d, at, mixed(at, size))
		}
		flushes(t, d)
	}
}

func TestSectorsThatThereAreNot(t *testing.T) { // P5.1, R2
	for _, n := range []int{1, 2, 1024} {
		d := made(t, n)
		writes(t, d, 0, full("a"))
		for _, at := range outside(n) {
			refusesRead(t, d, at, api.ErrArg)
			is(t, fmt.Sprintf("Write(%d) of %d", at, n), d.Write(at, full("b")), api.ErrArg)
			is(t, fmt.Sprintf("Write(%d) of %d, nothing", at, n), d.Write(at, ""), api.ErrArg)
		}
		counted(t, "outside", d, 1, 0)
		flushes(t, d)
		says(t, "outside", d, 0, full("a"))
		for at := 1; at < n; at++ {
			says(t, "outside", d, at, zeros)
		}
	}
}

func TestWriteOfTextsThatAreNoSector(t *testing.T) { // P5.1, R5
	d := made(t, 2)
	writes(t, d, 0, full("a"))
	flushes(t, d)
	for _, n := range []int{0, 1, 2, 63, 65, 66, 127, 128, 64 + 256, 4096, 1 << 20} {
		for _, at := range []int{0, 1} {
			is(t, fmt.Sprintf("Write of %d bytes", n), d.Write(at, mixed(n, n)), api.ErrArg)
			is(t, fmt.Sprintf("Write of %d bytes 00", n), d.Write(at, strings.Repeat("\x00", n)), api.ErrArg)
		}
	}
	// 64 runes of two bytes each are no 64 bytes.
	is(t, "Write of 64 runes", d.Write(0, full("é")), api.ErrArg)
	counted(t, "no sector", d, 0, 0)
	says(t, "no sector", d, 0, full("a"))
	says(t, "no sector", d, 1, zeros)
}

func TestWriteOfBytesOfAllKinds(t *testing.T) { // P5.1
	d := made(t, 2)
	every := make([]byte, 256)
	for i := range every {
		every[i] = byte(i)
	}
	texts := []string{zeros, full("\xff"), full("a"), strings.Repeat("é", size/2), full("\n"), mixed(1, size), zeros[:63] + "a", "a" + zeros[:63]}
	for at := 0; at < 256; at += size {
		texts = append(texts, string(every[at:at+size]))
	}
	for i, s := range texts {
		writes(t, d, i%2, s)
		says(t, "open", d, i%2, s)
		flushes(t, d)
		says(t, "flushed", d, i%2, s)
	}
}

func TestReadOfTheLastOpenWrite(t *testing.T) { // P5.1
	d := made(t, 3)
	writes(t, d, 1, full("a"))
	says(t, "one", d, 1, full("a"))
	writes(t, d, 1, full("b"), full("c"))
	says(t, "three", d, 1, full("c"))
	writes(t, d, 2, full("x"))
	says(t, "three, and one of another", d, 1, full("c"))
	says(t, "that other", d, 2, full("x"))
	says(t, "one without", d, 0, zeros)
	writes(t, d, 1, full("a"))
	says(t, "the first one's again", d, 1, full("a"))
	counted(t, "open", d, 5, 6)
}

func TestReadOfASectorFlushedAndWrittenAgain(t *testing.T) { // P5.1
	d := made(t, 2)
	writes(t, d, 0, full("a"))
	flushes(t, d)
	says(t, "flushed", d, 0, full("a"))
	writes(t, d, 0, full("b"))
	says(t, "written again", d, 0, full("b"))
	flushes(t, d)
	says(t, "flushed again", d, 0, full("b"))
	writes(t, d, 0, zeros)
	says(t, "written as new", d, 0, zeros)
	says(t, "the other", d, 1, zeros)
}

func TestReadMakesNothingLieThere(t *testing.T) { // P5.1, P5.3
	d := made(t, 1)
	writes(t, d, 0, full("a"))
	for range 3 {
		says(t, "open", d, 0, full("a"))
		counted(t, "open", d, 1, d.Reads())
	}
	crashes(t, d, 1)
	says(t, "lost", d, 0, zeros)
}

func TestFlushOfSeveralWritesOfOneSector(t *testing.T) { // P5.1
	d := made(t, 2)
	writes(t, d, 0, full("a"), full("b"))
	writes(t, d, 1, full("x"))
	writes(t, d, 0, full("c"))
	counted(t, "ahead", d, 4, 0)
	flushes(t, d)
	counted(t, "behind", d, 0, 0)
	says(t, "the last one", d, 0, full("c"))
	says(t, "the other sector", d, 1, full("x"))
	crashes(t, d, 0)
	says(t, "the last one, behind a crash", d, 0, full("c"))
	says(t, "the other sector, behind a crash", d, 1, full("x"))
}

func TestFlushOfNothing(t *testing.T) { // P5.1
	d := made(t, 2)
	for range 3 {
		flushes(t, d)
		counted(t, "nothing", d, 0, 0)
	}
	says(t, "nothing", d, 0, zeros)
	writes(t, d, 0, full("a"))
	flushes(t, d)
	flushes(t, d)
	says(t, "twice", d, 0, full("a"))
}

func TestOpenAndReadsBehindEachCall(t *testing.T) { // P5.1, P5.2, P5.3
	d := made(t, 2)
	steps := []struct {
		what        string
		do          func()
		open, reads int
	}{
		{"new", func() {}, 0, 0},
		{"Len", func() { d.Len() }, 0, 0},
		{"Read", func() { d.Read(0) }, 0, 1},
		{"Write", func() { d.Write(0, full("a")) }, 1, 1},
		{"Write of the same", func() { d.Write(0, full("a")) }, 2, 1},
		{"Write of another", func() { d.Write(1, full("b")) }, 3, 1},
		{"Read of an open one", func() { d.Read(0) }, 3, 2},
		{"Read that is ErrArg", func() { d.Read(2) }, 3, 2},
		{"Write that is ErrArg", func() { d.Write(0, "") }, 3, 2},
		{"Write to no sector", func() { d.Write(-1, full("a")) }, 3, 2},
		{"Fail", func() { d.Fail(1) }, 3, 2},
		{"Read that is ErrIO", func() { d.Read(1) }, 3, 3}, // no ErrArg: so it is an operation
		{"Read behind it", func() { d.Read(1) }, 3, 4},
		{"Fail of a Write", func() { d.Fail(1); d.Write(1, full("c")) }, 3, 4},
		{"Fail of a Flush", func() { d.Fail(1); d.Flush() }, 3, 4},
		{"Flush", func() { d.Flush() }, 0, 4},
		{"Write behind it", func() { d.Write(1, full("c")) }, 1, 4},
		{"Crash", func() { d.Crash(nil) }, 0, 0},
		{"Read behind it", func() { d.Read(1) }, 0, 1},
		{"Crash of none", func() { d.Crash([]api.Fate{{Kind: 1}}) }, 0, 0},
		{"Write and Read", func() { d.Write(1, full("c")); d.Read(1); d.Read(1) }, 1, 2},
		{"Crash that keeps it", func() { d.Crash([]api.Fate{{Kind: 1}}) }, 0, 0},
	}
	for _, x := range steps {
		x.do()
		counted(t, x.what, d, x.open, x.reads)
		counted(t, x.what+", asked again", d, x.open, x.reads)
	}
}

// operations are all three, on a disk of two sectors, of which the second is read and written.
func operations() []func(d *Disk) api.Errno {
	return []func(d *Disk) api.Errno{
		func(d *Disk) api.Errno { _, err := d.Read(1); return err },
		func(d *Disk) api.Errno { return d.Write(1, full("o")) },
		(*Disk).Flush,
	}
}

func TestFailOfTheNthOperation(t *testing.T) { // P5.2
	for n := 1; n <= 12; n++ {
		for shift := range 3 {
			d := made(t, 2)
			d.Fail(n)
			for i := 1; i <= 30; i++ {
				want := api.OK
				if i == n {
					want = api.ErrIO
				}
				is(t, fmt.Sprintf("Fail(%d), operation %d", n, i), operations()[(i+shift)%3](d), want)
			}
		}
	}
}

func TestFailOfAFarOperation(t *testing.T) { // P5.2, R5
	d := made(t, 1)
	d.Fail(5000)
	for range 4999 {
		is(t, "ahead of it", d.Flush(), api.OK)
	}
	is(t, "it", d.Flush(), api.ErrIO)
	for _, n := range []int{1 << 31, 1 << 32, math.MaxInt} {
		d.Fail(n)
		for range 1000 {
			is(t, fmt.Sprintf("Fail(%d)", n), d.Flush(), api.OK)
		}
	}
}

func TestFailBelow1IsNone(t *testing.T) { // P5.2
	for _, n := range []int{0, -1, -2, -1 << 32, math.MinInt} {
		for _, ahead := range []int{0, 1, 2, 3} {
			d := made(t, 2)
			d.Fail(ahead)
			d.Fail(n)
			for i := range 12 {
				is(t, fmt.Sprintf("Fail(%d), then Fail(%d)", ahead, n), operations()[i%3](d), api.OK)
			}
		}
	}
}

func TestAReadThatFails(t *testing.T) { // P5.2, R2
	d := made(t, 2)
	writes(t, d, 1, full("a"))
	d.Fail(1)
	refusesRead(t, d, 1, api.ErrIO)
	says(t, "again", d, 1, full("a"))
	flushes(t, d)
	d.Fail(2)
	says(t, "ahead", d, 1, full("a"))
	refusesRead(t, d, 1, api.ErrIO)
	says(t, "again", d, 1, full("a"))
}

func TestAWriteThatFails(t *testing.T) { // P5.2
	d := made(t, 2)
	writes(t, d, 1, full("a"))
	d.Fail(1)
	is(t, "Write", d.Write(1, full("b")), api.ErrIO)
	counted(t, "failed", d, 1, 0)
	says(t, "failed", d, 1, full("a"))
	flushes(t, d)
	says(t, "flushed", d, 1, full("a"))
	writes(t, d, 1, full("c"))
	says(t, "again", d, 1, full("c"))
}

func TestAFlushThatFails(t *testing.T) { // P5.2
	d := made(t, 2)
	writes(t, d, 0, full("a"), full("b"))
	writes(t, d, 1, full("c"))
	d.Fail(1)
	is(t, "Flush", d.Flush(), api.ErrIO)
	counted(t, "failed", d, 3, 0)
	says(t, "still open", d, 0, full("b"))
	crashes(t, d, 3)
	says(t, "lost", d, 0, zeros)
	says(t, "lost", d, 1, zeros)

	writes(t, d, 0, full("d"))
	d.Fail(1)
	is(t, "Flush", d.Flush(), api.ErrIO)
	flushes(t, d)
	crashes(t, d, 0)
	says(t, "flushed by the second", d, 0, full("d"))
}

func TestASecondFailCountsAlone(t *testing.T) { // P5.2
	for first := 1; first <= 5; first++ {
		for ahead := range first {
			for second := 1; second <= 5; second++ {
				d := made(t, 1)
				d.Fail(first)
				for range ahead {
					is(t, "ahead of the second", d.Flush(), api.OK)
				}
				d.Fail(second)
				for i := 1; i <= 12; i++ {
					want := api.OK
					if i == second {
						want = api.ErrIO
					}
					is(t, fmt.Sprintf("Fail(%d), %d operations, Fail(%d): %d", first, ahead, second, i), d.Flush(), want)
				}
			}
		}
	}
}

func TestAFailBehindTheFailedOne(t *testing.T) { // P5.2
	d := made(t, 1)
	for range 5 {
		d.Fail(1)
		is(t, "it", d.Flush(), api.ErrIO)
		is(t, "the one behind it", d.Flush(), api.OK)
	}
}

func TestAnErrArgIsNoOperation(t *testing.T) { // P5.2: an operation is no ErrArg
	d := made(t, 2)
	writes(t, d, 0, full("a"))
	d.Fail(2)
	for range 3 {
		refusesRead(t, d, 2, api.ErrArg)
		refusesRead(t, d, -1, api.ErrArg)
		is(t, "Write to no sector", d.Write(2, full("b")), api.ErrArg)
		is(t, "Write of 63 bytes", d.Write(0, full("b")[1:]), api.ErrArg)
	}
	says(t, "the first", d, 0, full("a"))
	refusesRead(t, d, 2, api.ErrArg)
	is(t, "Write of 65 bytes", d.Write(0, full("b")+"b"), api.ErrArg)
	refusesRead(t, d, 0, api.ErrIO)
	says(t, "the third", d, 0, full("a"))
}

func TestWhatIsNoOperationDoesNotFail(t *testing.T) { // P5.2
	d := made(t, 2)
	writes(t, d, 0, full("a"))
	d.Fail(1)
	for range 3 {
		if d.Len() != 2 || d.Open() != 1 || d.Reads() != 0 {
			t.Errorf("behind Fail: Len %d, Open %d, Reads %d", d.Len(), d.Open(), d.Reads())
		}
	}
	is(t, "the first", d.Flush(), api.ErrIO)
}

func TestFailCountsNoMoreBehindACrash(t *testing.T) { // P5.3
	for n := 1; n <= 4; n++ {
		for ahead := range n {
			d := made(t, 2)
			d.Fail(n)
			for i := range ahead {
				is(t, "ahead of the crash", operations()[i%3](d), api.OK)
			}
			d.Crash(nil)
			for i := range 12 {
				is(t, fmt.Sprintf("Fail(%d), %d operations, Crash", n, ahead), operations()[i%3](d), api.OK)
			}
			d.Fail(1)
			is(t, "a Fail behind the crash", d.Flush(), api.ErrIO)
		}
	}
}

func TestACrashIsNoOperation(t *testing.T) { // P5.2, P5.3
	d := made(t, 1)
	writes(t, d, 0, full("a"))
	d.Fail(1)
	crashes(t, d, 0, api.Fate{Kind: 1})
	says(t, "kept", d, 0, full("a"))
}

func TestTheExample(t *testing.T) { // the chapter's example
	d := made(t, 1)
	writes(t, d, 0, full("a"))
	flushes(t, d)
	writes(t, d, 0, full("b"))
	crashes(t, d, 1, api.Fate{Kind: 2, At: 3})
	says(t, "torn at 3", d, 0, "bbb"+full("a")[3:])
}

func TestCrashOfEachKind(t *testing.T) { // P5.3
	old, fresh := mixed(1, size), mixed(2, size)
	for at := 0; at <= 64; at++ {
		torn, broken := fresh[:at]+old[at:], 1
		if at == 64 { // all its bytes lie there
			broken = 0
		}
		cases := []struct {
			fate   api.Fate
			want   string
			broken int
		}{
			{api.Fate{Kind: 0, At: at}, old, 1},
			{api.Fate{Kind: 1, At: at}, fresh, 0},
			{api.Fate{Kind: 2, At: at}, torn, broken},
		}
		for _, x := range cases {
			d := made(t, 2)
			writes(t, d, 1, old)
			flushes(t, d)
			writes(t, d, 1, fresh)
			crashes(t, d, x.broken, x.fate)
			counted(t, "behind it", d, 0, 0)
			says(t, fmt.Sprint(x.fate), d, 1, x.want)
			says(t, fmt.Sprint(x.fate), d, 0, zeros)
		}
	}
}

// TestCrashOfFatesByTheirRests: a kind is told by its rest by 3, a place by its rest by 65, which is never below 0.
func TestCrashOfFatesByTheirRests(t *testing.T) { // P5.3, type Fate
	old, fresh := full("a"), full("b")
	cases := []struct {
		fate api.Fate
		kept int
	}{
		{api.Fate{Kind: 3}, 0}, {api.Fate{Kind: 4}, 64}, {api.Fate{Kind: 5, At: 7}, 7},
		{api.Fate{Kind: 6, At: 9}, 0}, {api.Fate{Kind: 7, At: 9}, 64}, {api.Fate{Kind: 3000002, At: 9}, 9},
		{api.Fate{Kind: -1, At: 5}, 5}, {api.Fate{Kind: -2, At: 5}, 64}, {api.Fate{Kind: -3, At: 5}, 0},
		{api.Fate{Kind: -4, At: 6}, 6}, {api.Fate{Kind: -5, At: 6}, 64}, {api.Fate{Kind: -6, At: 6}, 0},
		{api.Fate{Kind: math.MaxInt, At: 5}, 64}, {api.Fate{Kind: math.MaxInt - 1, At: 5}, 0}, {api.Fate{Kind: math.MaxInt - 2, At: 5}, 5},
		{api.Fate{Kind: math.MinInt, At: 5}, 64}, {api.Fate{Kind: math.MinInt + 1, At: 5}, 5}, {api.Fate{Kind: math.MinInt + 2, At: 5}, 0},
		{api.Fate{Kind: 2, At: 65}, 0}, {api.Fate{Kind: 2, At: 66}, 1}, {api.Fate{Kind: 2, At: 129}, 64}, {api.Fate{Kind: 2, At: 130}, 0},
		{api.Fate{Kind: 2, At: -1}, 64}, {api.Fate{Kind: 2, At: -2}, 63}, {api.Fate{Kind: 2, At: -64}, 1}, {api.Fate{Kind: 2, At: -65}, 0}, {api.Fate{Kind: 2, At: -66}, 64},
		{api.Fate{Kind: 2, At: math.MaxInt}, 7}, {api.Fate{Kind: 2, At: math.MinInt}, 57}, {api.Fate{Kind: -1, At: math.MinInt}, 57},
		{api.Fate{Kind: 1, At: -1}, 64}, {api.Fate{Kind: 1, At: math.MinInt}, 64}, {api.Fate{Kind: 0, At: math.MaxInt}, 0},
	}
	for _, x := range cases {
		d := made(t, 1)
		writes(t, d, 0, old)
		flushes(t, d)
		writes(t, d, 0, fresh)
		broken := 1
		if x.kept == 64 {
			broken = 0
		}
		crashes(t, d, broken, x.fate)
		says(t, fmt.Sprint(x.fate), d, 0, fresh[:x.kept]+old[x.kept:])
	}
}

func TestCrashOfFewerAsManyAndMoreFates(t *testing.T) { // P5.3
	for open := range 6 {
		for fates := range 10 {
			d := made(t, 6)
			for at := range open {
				writes(t, d, at, full("a"))
			}
			l := make([]api.Fate, fates)
			for i := range l {
				l[i].Kind = 1
			}
			kept := min(open, fates)
			crashes(t, d, open-kept, l...)
			counted(t, "behind it", d, 0, 0)
			for at := range 6 {
				want := zeros
				if at < kept {
					want = full("a")
				}
				says(t, fmt.Sprintf("%d open, %d fates", open, fates), d, at, want)
			}
		}
	}
}

func TestCrashWithoutFatesLosesAll(t *testing.T) { // P5.3, R1
	for _, l := range [][]api.Fate{nil, {}} {
		d := made(t, 2)
		writes(t, d, 0, full("a"))
		writes(t, d, 1, full("b"), full("c"))
		crashes(t, d, 3, l...)
		says(t, "lost", d, 0, zeros)
		says(t, "lost", d, 1, zeros)
	}
}

func TestCrashOfWritesOfSeveralSectors(t *testing.T) { // P5.3
	d := made(t, 4)
	for at := range 4 {
		writes(t, d, at, full("a"))
	}
	flushes(t, d)
	writes(t, d, 3, full("b"))
	writes(t, d, 0, full("c"))
	writes(t, d, 2, full("d"))
	writes(t, d, 1, full("e"))
	crashes(t, d, 3, api.Fate{Kind: 2, At: 63}, api.Fate{}, api.Fate{Kind: 1}, api.Fate{Kind: 2, At: 1})
	says(t, "lost", d, 0, full("a"))
	says(t, "torn at 1", d, 1, "e"+full("a")[1:])
	says(t, "there", d, 2, full("d"))
	says(t, "torn at 63", d, 3, full("b")[:63]+"a")
}

// TestCrashOfSeveralWritesOfOneSector: a sector's other bytes stay as the writes ahead left them.
func TestCrashOfSeveralWritesOfOneSector(t *testing.T) { // P5.3
	cases := []struct {
		l      []api.Fate
		broken int
		want   string
	}{
		{nil, 3, full("a")},
		{[]api.Fate{{Kind: 1}}, 2, full("b")},
		{[]api.Fate{{Kind: 0}, {Kind: 1}}, 2, full("c")},
		{[]api.Fate{{Kind: 1}, {Kind: 1}, {Kind: 0}}, 1, full("c")},
		{[]api.Fate{{Kind: 1}, {Kind: 1}, {Kind: 1}}, 0, full("d")},
		{[]api.Fate{{Kind: 1}, {Kind: 2, At: 10}}, 2, full("c")[:10] + full("b")[10:]},
		{[]api.Fate{{Kind: 2, At: 10}, {Kind: 1}}, 2, full("c")},
		{[]api.Fate{{Kind: 2, At: 30}, {Kind: 2, At: 20}, {Kind: 2, At: 10}}, 3, full("d")[:10] + full("c")[:10] + full("b")[:10] + full("a")[30:]},
		{[]api.Fate{{Kind: 2, At: 10}, {Kind: 2, At: 20}, {Kind: 2, At: 30}}, 3, full("d")[:30] + full("a")[30:]},
		{[]api.Fate{{Kind: 1}, {Kind: 0}, {Kind: 2, At: 1}}, 2, "d" + full("b")[1:]},
		{[]api.Fate{{Kind: 1}, {Kind: 2, At: 64}, {Kind: 2, At: 0}}, 1, full("c")},
		{[]api.Fate{{Kind: 1}, {Kind: 2, At: 65}, {Kind: 2, At: 66}}, 2, "d" + full("b")[1:]},
	}
	for _, x := range cases {
		d := made(t, 1)
		writes(t, d, 0, full("a"))
		flushes(t, d)
		writes(t, d, 0, full("b"), full("c"), full("d"))
		crashes(t, d, x.broken, x.l...)
		says(t, fmt.Sprint(x.l), d, 0, x.want)
	}
}

// TestATornWriteOfTheSameBytesIsNotWhole: just its first bytes came to lie there, whatever the others are.
func TestATornWriteOfTheSameBytesIsNotWhole(t *testing.T) { // P5.3
	d := made(t, 1)
	writes(t, d, 0, full("a"))
	flushes(t, d)
	writes(t, d, 0, full("a"))
	crashes(t, d, 1, api.Fate{Kind: 2, At: 5})
	says(t, "the same", d, 0, full("a"))
}

func TestWhatACrashLeftStays(t *testing.T) { // P5.3, P5.4
	d := made(t, 2)
	writes(t, d, 0, full("a"))
	writes(t, d, 1, full("b"))
	crashes(t, d, 1, api.Fate{Kind: 1}, api.Fate{Kind: 2, At: 32})
	for range 3 {
		says(t, "there", d, 0, full("a"))
		says(t, "torn", d, 1, full("b")[:32]+zeros[32:])
		flushes(t, d)
		crashes(t, d, 0, api.Fate{Kind: 0}, api.Fate{Kind: 2, At: 3})
	}
}

func TestADiskGoesOnBehindACrash(t *testing.T) { // P5.3
	d := made(t, 2)
	writes(t, d, 0, full("a"))
	crashes(t, d, 1)
	writes(t, d, 0, full("b"))
	counted(t, "written", d, 1, 0)
	says(t, "written", d, 0, full("b"))
	flushes(t, d)
	if d.Len() != 2 {
		t.Errorf("Len behind a crash: %d", d.Len())
	}
	refusesRead(t, d, 2, api.ErrArg)
	says(t, "flushed", d, 0, full("b"))
}

// TestWhatWasFlushedStays: whatever becomes of the writes of one sector, the others are as they were flushed; and of that one all bytes behind the torn place.
func TestWhatWasFlushedStays(t *testing.T) { // P5.4
	kinds := []int{0, 1, 2, 3, 5, -1, -2, -3, math.MinInt, math.MaxInt}
	places := []int{0, 1, 31, 63, 64, 65, 66, -1, -64, math.MinInt, math.MaxInt}
	for _, kind := range kinds {
		for _, place := range places {
			d := made(t, 3)
			for at := range 3 {
				writes(t, d, at, mixed(at, size))
			}
			flushes(t, d)
			fates := make([]api.Fate, 5)
			for i := range fates {
				fates[i] = api.Fate{Kind: kind, At: place}
			}
			d.Crash(fates) // nothing is open: nothing is lost
			says(t, "none open", d, 1, mixed(1, size))
			writes(t, d, 1, full("x"), full("x"))
			d.Crash(fates)
			says(t, "the one ahead", d, 0, mixed(0, size))
			says(t, "the one behind", d, 2, mixed(2, size))
			got, _ := d.Read(1)
			over := len(got) - len(strings.TrimLeft(got, "x"))
			if got[over:] != mixed(1, size)[over:] {
				t.Errorf("kind %d, at %d: %q over %q", kind, place, got, mixed(1, size))
			}
		}
	}
}

func TestWhatIsHandedInIsItsOwners(t *testing.T) { // R3
	d := made(t, 2)
	l := []api.Fate{{Kind: 2, At: 70}, {Kind: -1, At: -3}, {Kind: 8, At: 1}}
	was := append([]api.Fate(nil), l...)
	writes(t, d, 0, full("a"), full("b"))
	d.Crash(l)
	for i := range l {
		if l[i] != was[i] {
			t.Errorf("a crash made %v of the fate %v", l[i], was[i])
		}
	}
	left, _ := d.Read(0)
	for i := range l {
		l[i] = api.Fate{Kind: 1}
	}
	says(t, "fates changed behind the crash", d, 0, left)

	bytes := []byte(full("c"))
	s := string(bytes)
	writes(t, d, 1, s)
	for i := range bytes {
		bytes[i] = 'x'
	}
	says(t, "bytes changed behind the write", d, 1, full("c"))
	flushes(t, d)
	says(t, "bytes changed behind the write, flushed", d, 1, full("c"))
	if s != full("c") {
		t.Errorf("a write made %q of its text", s)
	}
}

func TestWhatIsToldStays(t *testing.T) { // R3
	d := made(t, 1)
	writes(t, d, 0, full("a"))
	open, _ := d.Read(0)
	flushes(t, d)
	lies, _ := d.Read(0)
	writes(t, d, 0, full("b"))
	flushes(t, d)
	writes(t, d, 0, full("c"))
	d.Crash([]api.Fate{{Kind: 2, At: 9}})
	if open != full("a") || lies != full("a") {
		t.Errorf("told was %q, %q, and is another one behind other calls", open, lies)
	}
	b := []byte(lies)
	b[0] = 'x'
	says(t, "what was told, changed", d, 0, full("c")[:9]+full("b")[9:])
}

func TestANilDiskTellsNothing(t *testing.T) { // the sentence behind the promises, P1
	var d *Disk
	for range 2 {
		for _, at := range append(outside(1), 0) {
			refusesRead(t, d, at, api.ErrArg)
			is(t, "Write", d.Write(at, full("a")), api.ErrArg)
			is(t, "Write of nothing", d.Write(at, ""), api.ErrArg)
		}
		is(t, "Flush", d.Flush(), api.ErrArg)
		for _, n := range []int{0, 1, 2, -1, math.MaxInt, math.MinInt} {
			d.Fail(n)
			refusesRead(t, d, 0, api.ErrArg)
			is(t, "Flush behind Fail", d.Flush(), api.ErrArg)
		}
		crashes(t, d, 0)
		crashes(t, d, 0, api.Fate{}, api.Fate{Kind: 1}, api.Fate{Kind: 2, At: 64})
		counted(t, "nil", d, 0, 0)
		if d.Len() != 0 {
			t.Errorf("Len of a nil disk: %d", d.Len())
		}
	}
}

// TestAZeroDiskHasNoSectors: no chapter says what it is; it must not panic.
func TestAZeroDiskHasNoSectors(t *testing.T) { // P1
	d := new(Disk)
	for _, at := range append(outside(1), 0) {
		refusesRead(t, d, at, api.ErrArg)
		is(t, "Write", d.Write(at, full("a")), api.ErrArg)
	}
	d.Fail(1)
	crashes(t, d, 0, api.Fate{Kind: 1})
	counted(t, "zero", d, 0, 0)
	if d.Len() != 0 {
		t.Errorf("Len of a zero disk: %d", d.Len())
	}
	flushes(t, d)
}

func TestDisksStandByThemselves(t *testing.T) { // R4
	a, b := made(t, 2), made(t, 2)
	writes(t, a, 0, full("a"))
	a.Fail(2)
	says(t, "a", a, 0, full("a"))
	says(t, "b", b, 0, zeros)
	flushes(t, b)
	counted(t, "a", a, 1, 1)
	counted(t, "b", b, 0, 1)
	crashes(t, b, 0, api.Fate{Kind: 1})
	counted(t, "a, behind b's crash", a, 1, 1)
	is(t, "a's second", a.Flush(), api.ErrIO)
}

func TestManyOpenWrites(t *testing.T) { // R5
	d := made(t, 1024)
	const n = 20000
	for i := range n {
		writes(t, d, i%1024, mixed(i, size))
	}
	counted(t, "many", d, n, 0)
	says(t, "the last", d, (n-1)%1024, mixed(n-1, size))
	l := make([]api.Fate, 2*n)
	for i := range l {
		l[i].Kind = i % 2
	}
	crashes(t, d, n/2, l...)
	for at := 1; at < 1024; at += 2 {
		says(t, "kept", d, at, mixed((n-1-at)/1024*1024+at, size))
	}
	for at := 0; at < 1024; at += 2 {
		says(t, "lost", d, at, zeros)
	}
}

// worded is a disk as the chapter's words tell it: what was done is kept as it was, and looked through when it is asked.
type worded struct {
	lies  []string
	at    []int
	texts []string
	// failing counts operations up to the one that fails; below 1 none does.
	failing, reads int
}

func (w *worded) fails() bool {
	w.failing--
	return w.failing == 0
}

func (w *worded) read(at int) (string, api.Errno) {
	if at < 0 || at >= len(w.lies) {
		return "", api.ErrArg
	}
	w.reads++
	if w.fails() {
		return "", api.ErrIO
	}
	s := w.lies[at]
	for i := range w.at {
		if w.at[i] == at {
			s = w.texts[i]
		}
	}
	return s, api.OK
}

func (w *worded) write(at int, s string) api.Errno {
	if at < 0 || at >= len(w.lies) || len(s) != 64 {
		return api.ErrArg
	}
	if w.fails() {
		return api.ErrIO
	}
	w.at, w.texts = append(w.at, at), append(w.texts, s)
	return api.OK
}

func (w *worded) flush() api.Errno {
	if w.fails() {
		return api.ErrIO
	}
	for i, at := range w.at {
		w.lies[at] = w.texts[i]
	}
	w.at, w.texts = nil, nil
	return api.OK
}

func (w *worded) crash(l []api.Fate) int {
	broken := 0
	for i, at := range w.at {
		kept := 0
		if i < len(l) {
			// The rests, as the fewest steps of 3 and of 65 from 0 on tell them.
			kept = []int{0, 64, ((l[i].At % 65) + 65) % 65}[((l[i].Kind%3)+3)%3]
		}
		w.lies[at] = w.texts[i][:kept] + w.lies[at][kept:]
		if kept < 64 {
			broken++
		}
	}
	w.at, w.texts, w.failing, w.reads = nil, nil, 0, 0
	return broken
}

// TestLongRowsOfCalls holds a disk against the words over rows of all calls.
func TestLongRowsOfCalls(t *testing.T) { // P5.1, P5.2, P5.3, P5.4
	for seed := range 60 {
		x := uint64(seed)*7919 + 1
		draw := func(n int) int {
			x = drawn(x)
			return int(x>>20) % n
		}
		n := 1 + draw(5)
		d, w := made(t, n), &worded{lies: make([]string, n)}
		for at := range n {
			w.lies[at] = zeros
		}
		for step := range 600 {
			what := fmt.Sprintf("row %d, step %d", seed, step)
			switch at := draw(n+2) - 1; draw(12) {
			case 0, 1, 2, 3:
				s := mixed(draw(1<<20), 64-draw(30)/29+draw(30)/29)
				is(t, what+", Write", d.Write(at, s), w.write(at, s))
			case 4, 5, 6:
				got, err := d.Read(at)
				want, wantErr := w.read(at)
				if got != want || err != wantErr {
					t.Fatalf("%s: Read(%d): %q, error %d, want %q, %d", what, at, got, err, want, wantErr)
				}
			case 7, 8:
				is(t, what+", Flush", d.Flush(), w.flush())
			case 9, 10:
				n := draw(8) - 2
				d.Fail(n)
				w.failing = n
			default:
				l := make([]api.Fate, draw(8))
				for i := range l {
					l[i] = api.Fate{Kind: draw(13) - 6, At: draw(400) - 200}
				}
				crashes(t, d, w.crash(l), l...)
			}
			counted(t, what, d, len(w.at), w.reads)
		}
		d.Fail(0)
		for at := range n {
			want := w.lies[at]
			d.Crash(nil)
			says(t, fmt.Sprintf("row %d, at its end", seed), d, at, want)
		}
	}
}

func TestTheSameCallsHaveTheSameAnswers(t *testing.T) { // R4
	run := func() string {
		d := made(t, 2)
		d.Fail(3)
		a, b, c := d.Write(0, full("a")), d.Write(0, full("b")), d.Flush()
		n := d.Crash([]api.Fate{{Kind: 2, At: 7}, {Kind: 2, At: 3}})
		s, err := d.Read(0)
		return fmt.Sprint(a, b, c, n, s, err, d.Open(), d.Reads(), d.Len())
	}
	if first, again := run(), run(); first != again {
		t.Errorf("%s, then %s", first, again)
	}
}
