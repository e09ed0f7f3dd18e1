package slots

import (
	"fmt"
	"math"
	"slices"
	"strings"
	"testing"

	"horarium/api"
	"horarium/disk"
	"horarium/frame"
)

const last = math.MaxUint64

// mixed is a text of n bytes of all kinds, another one for each seed, the same in every run.
func mixed(seed, n int) string {
	b := make([]byte, n)
	x := uint64(88172645463325252) + uint64(seed)
	for i := range b {
		x = drawn(x)
		b[i] = byte(x >> 24)
	}
	return string(b)
}

// drawn is the number behind x in a row that looks like chance, and is none.
func drawn(x uint64) uint64 {
	x ^= x << 13
	x ^= x >> 7
	return x ^ x<<17
}

func made(t *testing.T, d *disk.Disk, at, k int) *Slots {
	t.Helper()
	s := New(d, at, k)
	if s == nil {
		t.Fatalf("New(a disk of %d, %d, %d): nil", d.Len(), at, k)
	}
	return s
}

// both are a disk that has just two slots of k sectors, and these.
func both(t *testing.T, k int) (*disk.Disk, *Slots) {
	t.Helper()
	d := disk.New(2 * k)
	return d, made(t, d, 0, k)
}

func sector(t *testing.T, epoch, number uint64, payload string) string {
	t.Helper()
	s, err := frame.Make(api.Cell{Payload: payload, Epoch: epoch, Number: number})
	if err != api.OK {
		t.Fatalf("Make of %d bytes: error %d", len(payload), err)
	}
	return s
}

// sectorsOf are the k sectors of a slot that is whole, of that epoch, with data.
func sectorsOf(t *testing.T, k int, epoch uint64, data string) []string {
	t.Helper()
	l := make([]string, k)
	for i := range l {
		n := min(len(data), 43)
		l[i] = sector(t, epoch, uint64(i), data[:n])
		data = data[n:]
	}
	if data != "" {
		t.Fatalf("%d bytes too many for %d sectors", len(data), k)
	}
	return l
}

// lies puts sectors on the disk, from at on, and flushes.
func lies(t *testing.T, d *disk.Disk, at int, sectors ...string) {
	t.Helper()
	for i, s := range sectors {
		if err := d.Write(at+i, s); err != api.OK {
			t.Fatalf("sector %d, %q: error %d", at+i, s, err)
		}
	}
	if err := d.Flush(); err != api.OK {
		t.Fatalf("flush: error %d", err)
	}
}

// all is what all sectors of the disk say.
func all(t *testing.T, d *disk.Disk) []string {
	t.Helper()
	l := make([]string, d.Len())
	for at := range l {
		s, err := d.Read(at)
		if err != api.OK {
			t.Fatalf("sector %d: error %d", at, err)
		}
		l[at] = s
	}
	return l
}

// has looks at what the disk's sectors say, from at on.
func has(t *testing.T, what string, d *disk.Disk, at int, want ...string) {
	t.Helper()
	got := all(t, d)
	for i, s := range want {
		if got[at+i] != s {
			t.Errorf("%s: sector %d: %q, want %q", what, at+i, got[at+i], s)
		}
	}
}

// shown is a snapshot in a form that may be printed, whatever bytes it has.
func shown(x api.Snap) string {
	return fmt.Sprintf("%q of epoch %d", x.Data, x.Epoch)
}

// tells looks at a Read that must tell this snapshot.
func tells(t *testing.T, what string, s *Slots, epoch uint64, data string) {
	t.Helper()
	snap, ok, err := s.Read()
	if want := (api.Snap{Epoch: epoch, Data: data}); snap != want || !ok || err != api.OK {
		t.Errorf("%s: Read: %s, %t, error %d, want %s", what, shown(snap), ok, err, shown(want))
	}
}

// tellsNone looks at a Read that must tell that there is no snapshot.
func tellsNone(t *testing.T, what string, s *Slots) {
	t.Helper()
	if snap, ok, err := s.Read(); snap != (api.Snap{}) || ok || err != api.OK {
		t.Errorf("%s: Read: %s, %t, error %d, want nothing", what, shown(snap), ok, err)
	}
}

// refusesRead looks at a Read that must be an error and tell nothing.
func refusesRead(t *testing.T, what string, s *Slots, want api.Errno) {
	t.Helper()
	if snap, ok, err := s.Read(); snap != (api.Snap{}) || ok || err != want {
		t.Errorf("%s: Read: %s, %t, error %d, want nothing, error %d", what, shown(snap), ok, err, want)
	}
}

// writes looks at a Write that must tell this epoch.
func writes(t *testing.T, what string, s *Slots, data string, want uint64) {
	t.Helper()
	if epoch, err := s.Write(data); epoch != want || err != api.OK {
		t.Errorf("%s: Write of %d bytes: %d, error %d, want %d", what, len(data), epoch, err, want)
	}
}

// refuses looks at a Write that must be an error and tell nothing.
func refuses(t *testing.T, what string, s *Slots, data string, want api.Errno) {
	t.Helper()
	if epoch, err := s.Write(data); epoch != 0 || err != want {
		t.Errorf("%s: Write of %d bytes: %d, error %d, want 0, error %d", what, len(data), epoch, err, want)
	}
}

func newestIs(t *testing.T, what string, s *Slots, want uint64) {
	t.Helper()
	if got := s.Newest(); got != want {
		t.Errorf("%s: Newest: %d, want %d", what, got, want)
	}
}

// counted looks at a disk's open writes and reads.
func counted(t *testing.T, what string, d *disk.Disk, open, reads int) {
	t.Helper()
	if d.Open() != open || d.Reads() != reads {
		t.Errorf("%s: %d open, %d reads, want %d, %d", what, d.Open(), d.Reads(), open, reads)
	}
}

func TestNewOfDisksThatHaveTheSectors(t *testing.T) { // P6.1
	for _, k := range []int{1, 2, 3, 63, 64} {
		for _, at := range []int{0, 1, 2, 500, 1024 - 2*k} {
			for _, more := range []int{0, 1, 2, 64, 1024 - at - 2*k} {
				n := at + 2*k + more
				if n > 1024 {
					continue
				}
				s := New(disk.New(n), at, k)
				if s == nil || s.Room() != 43*k || s.Newest() != 0 {
					t.Errorf("New(a disk of %d, %d, %d): nil, or Room %d", n, at, k, s.Room())
				}
			}
		}
	}
}

func TestNewOfDisksThatHaveThemNot(t *testing.T) { // P6.1
	for _, k := range []int{1, 2, 3, 63, 64} {
		for _, at := range []int{0, 1, 2, 500, 1024 - 2*k} {
			for n := max(1, at+2*k-3); n < at+2*k; n++ {
				if s := New(disk.New(n), at, k); s != nil {
					t.Errorf("New(a disk of %d, %d, %d): slots", n, at, k)
				}
			}
		}
	}
	// One slot alone has its sectors, or even none.
	for _, n := range []int{1, 2, 3, 4, 5, 6, 7} {
		if s := New(disk.New(n), 0, 4); s != nil {
			t.Errorf("New(a disk of %d, 0, 4): slots", n)
		}
	}
}

func TestNewOfOtherNumbers(t *testing.T) { // P6.1, P1, R5
	great := []int{1023, 1024, 1025, 1 << 16, 1 << 31, 1 << 32, 1 << 62, 1<<62 + 1, 1 << 61, math.MaxInt - 127, math.MaxInt - 1, math.MaxInt}
	negative := []int{-1, -2, -3, -64, -128, -1 << 31, -1 << 32, -1 << 62, math.MinInt + 1, math.MinInt}
	for _, d := range []*disk.Disk{disk.New(1024), disk.New(130), disk.New(2)} {
		for _, at := range append(append([]int{0, 1}, great...), negative...) {
			for _, k := range append([]int{0, 65, 66, 127, 128, 256, 512}, append(negative, great...)...) {
				if s := New(d, at, k); s != nil {
					t.Errorf("New(a disk of %d, %d, %d): slots", d.Len(), at, k)
				}
			}
		}
		for _, k := range []int{1, 2, 64} {
			for _, at := range append(great, negative...) {
				if s := New(d, at, k); s != nil {
					t.Errorf("New(a disk of %d, %d, %d): slots", d.Len(), at, k)
				}
			}
		}
	}
}

func TestNewOfNoDisk(t *testing.T) { // P6.1
	for _, d := range []*disk.Disk{nil, disk.New(0), disk.New(1025), {}} {
		for _, at := range []int{0, 1, -1, -2, -128, math.MinInt, math.MaxInt} {
			for _, k := range []int{1, 2, 64, 0, -1, 65, math.MinInt, math.MaxInt} {
				if s := New(d, at, k); s != nil {
					t.Errorf("New(no disk, %d, %d): slots", at, k)
				}
			}
		}
	}
}

func TestNewUsesNothingOfTheDisk(t *testing.T) { // P6.1: they have not been read
	d := disk.New(4)
	lies(t, d, 0, sectorsOf(t, 2, 7, "a")...)
	d.Fail(1)
	s := made(t, d, 0, 2)
	counted(t, "new", d, 0, 0)
	newestIs(t, "new", s, 0)
	refuses(t, "new", s, "a", api.ErrState)
	refusesRead(t, "the first operation", s, api.ErrIO)
}

func TestRoom(t *testing.T) { // P6.1
	for k := 1; k <= 64; k++ {
		d, s := both(t, k)
		for range 2 {
			if got := s.Room(); got != 43*k {
				t.Errorf("Room of %d sectors: %d", k, got)
			}
			s.Read()
			s.Write("a")
		}
		d.Fail(1)
		if s.Read(); s.Room() != 43*k {
			t.Errorf("Room of %d sectors that can't be read: %d", k, s.Room())
		}
	}
}

func TestNewest(t *testing.T) { // P6.1, P6.2
	d, s := both(t, 2)
	newestIs(t, "not read", s, 0)
	tellsNone(t, "nothing", s)
	newestIs(t, "of nothing", s, 0)
	writes(t, "first", s, "a", 1)
	newestIs(t, "written", s, 1)
	writes(t, "second", s, "b", 2)
	newestIs(t, "written", s, 2)
	tells(t, "both", s, 2, "b")
	newestIs(t, "read", s, 2)
	again := made(t, d, 0, 2)
	newestIs(t, "not read", again, 0)
	tells(t, "both", again, 2, "b")
	newestIs(t, "read", again, 2)
	refuses(t, "too long", s, mixed(1, 87), api.ErrArg)
	newestIs(t, "refused", s, 2)
	d.Fail(3)
	refuses(t, "flush fails", s, "c", api.ErrIO)
	newestIs(t, "failed", s, 3)
	d.Fail(4)
	refusesRead(t, "the last one fails", s, api.ErrIO)
	newestIs(t, "not read", s, 0)
	d.Crash(nil)
	tells(t, "all lost", s, 2, "b")
	newestIs(t, "all lost", s, 2)
}

func TestTheExample(t *testing.T) { // the chapter's example
	_, s := both(t, 1)
	tellsNone(t, "first", s)
	writes(t, "second", s, "a", 1)
	tells(t, "third", s, 1, "a")
}

func TestReadOfSlotsThatWereNeverWritten(t *testing.T) { // P6.1
	for _, k := range []int{1, 2, 3, 64} {
		_, s := both(t, k)
		for range 3 {
			tellsNone(t, "never written", s)
			newestIs(t, "never written", s, 0)
		}
	}
}

func TestReadOfOneThatIsWhole(t *testing.T) { // P6.1
	for _, k := range []int{1, 2, 3, 64} {
		for _, at := range []int{0, 1, 5} {
			for slot := range 2 {
				for _, epoch := range []uint64{1, 2, 255, 256, 1 << 63, last - 1, last} {
					for _, n := range []int{0, 1, 42, 43, 44, 43*k - 1, 43 * k} {
						if n > 43*k {
							continue
						}
						d := disk.New(at + 2*k + 1)
						lies(t, d, at+slot*k, sectorsOf(t, k, epoch, mixed(n, n))...)
						s := made(t, d, at, k)
						tells(t, fmt.Sprintf("slot %d of %d, at %d", slot, k, at), s, epoch, mixed(n, n))
						newestIs(t, "read", s, epoch)
					}
				}
			}
		}
	}
}

func TestReadOfBothThatAreWhole(t *testing.T) { // P6.1
	cases := []struct {
		first, second, want uint64
		data                string
	}{
		{1, 2, 2, "second"}, {2, 1, 2, "first"}, {1, 1, 1, "second"}, {7, 7, 7, "second"},
		{255, 256, 256, "second"}, {256, 255, 256, "first"}, {last, last, last, "second"},
		{last, last - 1, last, "first"}, {last - 1, last, last, "second"}, {last, 1, last, "first"}, {1, last, last, "second"},
		{1 << 63, 1<<63 - 1, 1 << 63, "first"}, {1<<63 - 1, 1 << 63, 1 << 63, "second"},
	}
	for _, x := range cases {
		for _, k := range []int{1, 2, 5} {
			d, s := both(t, k)
			lies(t, d, 0, sectorsOf(t, k, x.first, "first")...)
			lies(t, d, k, sectorsOf(t, k, x.second, "second")...)
			tells(t, fmt.Sprintf("%d and %d", x.first, x.second), s, x.want, x.data)
			newestIs(t, "both", s, x.want)
		}
	}
}

// TestReadOfEpochNothing: an epoch is from 1 on, so that no slot is whole of 0.
func TestReadOfEpochNothing(t *testing.T) { // P6.1
	for _, k := range []int{1, 3} {
		d, s := both(t, k)
		lies(t, d, 0, sectorsOf(t, k, 0, "first")...)
		tellsNone(t, "the first of epoch 0", s)
		lies(t, d, k, sectorsOf(t, k, 0, "second")...)
		tellsNone(t, "both of epoch 0", s)
		newestIs(t, "both of epoch 0", s, 0)
		writes(t, "both of epoch 0", s, "a", 1)
		has(t, "none was told", d, 0, sectorsOf(t, k, 1, "a")...)
		lies(t, d, 0, sectorsOf(t, k, 0, "first")...)
		lies(t, d, k, sectorsOf(t, k, 1, "second")...)
		tells(t, "the first of epoch 0", s, 1, "second")
	}
}

// TestReadOfPayloadsThatAreNotFull: data are all payloads, however long each of them is.
func TestReadOfPayloadsThatAreNotFull(t *testing.T) { // P6.1
	d, s := both(t, 4)
	lies(t, d, 0, sector(t, 5, 0, ""), sector(t, 5, 1, "ab"), sector(t, 5, 2, mixed(1, 43)), sector(t, 5, 3, "\x00"))
	tells(t, "parts", s, 5, "ab"+mixed(1, 43)+"\x00")
}

// broken are sectors that are not whole of an epoch and a number, made of one that is, with what is wrong with each.
func broken(t *testing.T, epoch, number uint64) map[string]string {
	t.Helper()
	right := sector(t, epoch, number, "right")
	old := sector(t, epoch-1, number, "old text")
	l := map[string]string{
		"of the epoch ahead":       sector(t, epoch-1, number, "right"),
		"of the epoch behind":      sector(t, epoch+1, number, "right"),
		"of epoch 0":               sector(t, 0, number, "right"),
		"with the number ahead":    sector(t, epoch, number-1, "right"),
		"with the number behind":   sector(t, epoch, number+1, "right"),
		"with a great number":      sector(t, epoch, number+1<<32, "right"),
		"with both changed places": sector(t, number, epoch, "right"),
		"never written":            strings.Repeat("\x00", 64),
		"of bytes ff":              strings.Repeat("\xff", 64),
		"of any bytes":             mixed(int(number), 64),
	}
	for _, at := range []int{1, 5, 8, 20, 47, 48, 54, 55} {
		l[fmt.Sprintf("torn at %d", at)] = right[:at] + old[at:]
		l[fmt.Sprintf("torn over one of another kind at %d", at)] = old[:at] + right[at:]
	}
	for at := range 64 {
		l[fmt.Sprintf("with another byte %d", at)] = right[:at] + string([]byte{right[at] ^ 0x20}) + right[at+1:]
	}
	return l
}

func TestReadOfSlotsWithASectorThatIsNotWhole(t *testing.T) { // P6.1
	for _, k := range []int{1, 2, 3} {
		for slot := range 2 {
			for number := range k {
				for what, wrong := range broken(t, 9, uint64(number)) {
					what := fmt.Sprintf("sector %d of slot %d of %d, %s", number, slot, k, what)
					d, s := both(t, k)
					lies(t, d, slot*k, sectorsOf(t, k, 9, "newer")...)
					lies(t, d, slot*k+number, wrong)
					epoch, _, _ := frame.Tag(wrong)
					if k > 1 {
						epoch = max(epoch, 9)
					}
					if snap, ok, err := s.Read(); k == 1 && ok && err == api.OK && frame.Whole(wrong, snap.Epoch, 0) {
						continue // a slot of one sector is whole of whatever epoch that is
					} else if snap != (api.Snap{}) || ok || err != api.OK {
						t.Errorf("%s, alone: %s, %t, error %d", what, shown(snap), ok, err)
					}
					newestIs(t, what, s, epoch)
					lies(t, d, (1-slot)*k, sectorsOf(t, k, 4, "older")...)
					tells(t, what, s, 4, "older")
					newestIs(t, what, s, max(epoch, 4))
				}
			}
		}
	}
}

// TestReadOfASlotOfOneSector: its epoch is that of its one sector.
func TestReadOfASlotOfOneSector(t *testing.T) { // P6.1
	d, s := both(t, 1)
	lies(t, d, 0, sector(t, 5, 1, "a"))
	tellsNone(t, "number 1", s)
	lies(t, d, 1, sector(t, 4, 1, "a"))
	tellsNone(t, "number 1 in the second slot", s)
	newestIs(t, "number 1 in both", s, 5)
	lies(t, d, 1, sector(t, 4, 0, "b"))
	tells(t, "number 0 in the second slot", s, 4, "b")
	newestIs(t, "number 1 in the first", s, 5)
}

func TestReadOfSectorsThatStandInTheOtherSlot(t *testing.T) { // P6.1
	first, second := sectorsOf(t, 3, 5, mixed(1, 100)), sectorsOf(t, 3, 6, mixed(2, 100))
	for number := range 3 {
		d, s := both(t, 3)
		lies(t, d, 0, first...)
		lies(t, d, 3, second...)
		lies(t, d, number, second[number])
		tells(t, "one of the second in the first", s, 6, mixed(2, 100))
		lies(t, d, 3+number, first[number])
		tellsNone(t, "two changed places", s)
		newestIs(t, "two changed places", s, 6)
		lies(t, d, number, first[number])
		tells(t, "one of the first in the second", s, 5, mixed(1, 100))
		newestIs(t, "one of the first in the second", s, 6)
	}
	d, s := both(t, 3)
	lies(t, d, 0, second...)
	lies(t, d, 3, first...)
	tells(t, "all changed places", s, 6, mixed(2, 100))
	// A slot's numbers are from 0 on, in the second one too.
	d, s = both(t, 3)
	lies(t, d, 3, sector(t, 5, 3, "a"), sector(t, 5, 4, "b"), sector(t, 5, 5, "c"))
	tellsNone(t, "numbers 3 to 5 in the second slot", s)
	// A row that begins in the one slot and ends in the other is none.
	d, s = both(t, 3)
	lies(t, d, 1, first...)
	tellsNone(t, "from the second sector on", s)
	// Sectors in the wrong order are none.
	d, s = both(t, 3)
	lies(t, d, 0, first[1], first[0], first[2])
	tellsNone(t, "two of a slot changed places", s)
}

func TestReadLooksAtItsOwnSectorsAlone(t *testing.T) { // P6.1
	d := disk.New(8)
	lies(t, d, 0, sector(t, 90, 0, "ahead"), sector(t, 90, 1, "ahead"))
	lies(t, d, 6, sector(t, 91, 0, "behind"), sector(t, 91, 1, "behind"))
	s := made(t, d, 2, 2)
	tellsNone(t, "others' sectors", s)
	newestIs(t, "others' sectors", s, 0)
	writes(t, "first", s, "a", 1)
	writes(t, "second", s, "b", 2)
	has(t, "others' sectors", d, 0, sector(t, 90, 0, "ahead"), sector(t, 90, 1, "ahead"))
	has(t, "its own", d, 2, sector(t, 1, 0, "a"), sector(t, 1, 1, ""), sector(t, 2, 0, "b"), sector(t, 2, 1, ""))
	has(t, "others' sectors", d, 6, sector(t, 91, 0, "behind"), sector(t, 91, 1, "behind"))
}

func TestReadTellsOpenWritesToo(t *testing.T) { // P6.1: a disk's Read tells the last open write
	d, s := both(t, 1)
	d.Write(1, sector(t, 3, 0, "open"))
	tells(t, "open", s, 3, "open")
	counted(t, "open", d, 1, 2)
	d.Crash(nil)
	tellsNone(t, "lost", s)
}

func TestReadReadsEachSectorOnce(t *testing.T) { // P6.1
	for _, k := range []int{1, 2, 3, 64} {
		for _, at := range []int{0, 3} {
			d := disk.New(at + 2*k + 2)
			s := made(t, d, at, k)
			for n := 1; n <= 3; n++ {
				s.Read()
				counted(t, fmt.Sprintf("%d reads of %d sectors", n, 2*k), d, 0, n*2*k)
			}
			s.Write("a")
			counted(t, "written", d, 0, 6*k)
		}
	}
}

func TestPlacesAreToldInOrder(t *testing.T) { // P6.1
	for _, k := range []int{1, 2, 3, 64} {
		s := made(t, disk.New(1024), 7, k)
		for most := range 2*k + 1 {
			var got []int
			for slot, number := range s.places() {
				if len(got) == most {
					break
				}
				got = append(got, s.place(slot, number))
				if slot != (len(got)-1)/k || number != (len(got)-1)%k {
					t.Errorf("place %d of %d: sector %d of slot %d", len(got)-1, k, number, slot)
				}
			}
			var want []int
			for i := range most {
				want = append(want, 7+i)
			}
			if !slices.Equal(got, want) {
				t.Errorf("places of %d: %v, want %v", k, got, want)
			}
		}
	}
}

func TestReadWhereASectorCantBeRead(t *testing.T) { // P6.1
	for _, k := range []int{1, 2, 3} {
		for n := 1; n <= 2*k; n++ {
			what := fmt.Sprintf("read %d of %d", n, 2*k)
			d, s := both(t, k)
			lies(t, d, 0, sectorsOf(t, k, 4, "first")...)
			lies(t, d, k, sectorsOf(t, k, 5, "second")...)
			for range 2 { // ahead of the first Read, and behind one that was fine
				reads := d.Reads()
				d.Fail(n)
				refusesRead(t, what, s, api.ErrIO)
				counted(t, what, d, 0, reads+n)
				newestIs(t, what, s, 0)
				refuses(t, what, s, "a", api.ErrState)
				refuses(t, what, s, mixed(1, 43*k+1), api.ErrArg)
				has(t, what, d, 0, append(sectorsOf(t, k, 4, "first"), sectorsOf(t, k, 5, "second")...)...)
				tells(t, what, s, 5, "second")
				newestIs(t, what, s, 5)
			}
			writes(t, what, s, "third", 6)
			has(t, what, d, 0, append(sectorsOf(t, k, 6, "third"), sectorsOf(t, k, 5, "second")...)...)
		}
		// The operation behind all reads is none of Read's.
		d, s := both(t, k)
		d.Fail(2*k + 1)
		tellsNone(t, "one behind", s)
		refuses(t, "one behind", s, "a", api.ErrIO)
	}
}

// TestReadThatFailedForgets: which slot was told or written last counts no more.
func TestReadThatFailedForgets(t *testing.T) { // P6.1, P6.2
	d, s := both(t, 1)
	tellsNone(t, "nothing", s)
	writes(t, "first", s, "a", 1)
	d.Fail(2)
	refusesRead(t, "fails", s, api.ErrIO)
	lies(t, d, 0, strings.Repeat("\x00", 64))
	tellsNone(t, "wiped", s)
	newestIs(t, "wiped", s, 0)
	writes(t, "the first again", s, "b", 1)
	has(t, "the first again", d, 0, sector(t, 1, 0, "b"), strings.Repeat("\x00", 64))
}

// TestReadThatTellsNothingForgets: none was told then, so that the first slot is written.
func TestReadThatTellsNothingForgets(t *testing.T) { // P6.1, P6.2
	d, s := both(t, 1)
	tellsNone(t, "nothing", s)
	writes(t, "first", s, "a", 1)
	lies(t, d, 0, mixed(3, 48)+strings.Repeat("\x00", 15)+"\x07")
	tellsNone(t, "spoilt", s)
	writes(t, "the first again", s, "b", 1)
	has(t, "the first again", d, 0, sector(t, 1, 0, "b"), strings.Repeat("\x00", 64))
}

func TestTheDiskLosesItsSectors(t *testing.T) { // P1: a disk's owner may do so
	d, s := both(t, 2)
	tellsNone(t, "nothing", s)
	*d = disk.Disk{}
	refuses(t, "no sectors", s, "a", api.ErrIO)
	refusesRead(t, "no sectors", s, api.ErrIO)
	newestIs(t, "no sectors", s, 0)
}

// TestNewestIsOfAnySector: whole or not, and whichever slot is told.
func TestNewestIsOfAnySector(t *testing.T) { // P6.1
	for _, epoch := range []uint64{8, 255, 256, 1 << 32, 1 << 63, last - 1} {
		for at := range 6 {
			for _, wrong := range []string{
				mixed(at, 48) + sector(t, epoch, 5, "")[48:],
				sector(t, epoch, 77, "whole of another number"),
				strings.Repeat("\x00", 48) + sector(t, epoch, 0, "")[48:],
			} {
				d, s := both(t, 3)
				lies(t, d, 0, sectorsOf(t, 3, 6, "first")...)
				lies(t, d, 3, sectorsOf(t, 3, 7, "second")...)
				lies(t, d, at, wrong)
				if at < 3 {
					tells(t, "wrong in the first", s, 7, "second")
				} else {
					tells(t, "wrong in the second", s, 6, "first")
				}
				newestIs(t, "wrong", s, epoch)
				writes(t, "wrong", s, "third", epoch+1)
				newestIs(t, "wrong", s, epoch+1)
				tells(t, "third", s, epoch+1, "third")
			}
		}
	}
}

// TestATornEpochMayBeAboveBoth: where a tag itself was torn, it may be greater than the old and the new epoch.
func TestATornEpochMayBeAboveBoth(t *testing.T) { // P6.1, P6.2
	d, s := both(t, 1)
	lies(t, d, 0, sector(t, 255, 0, "first"))
	lies(t, d, 1, sector(t, 254, 0, "second"))
	tells(t, "first", s, 255, "first")
	d.Fail(2)
	refuses(t, "torn", s, "third", api.ErrIO)
	d.Crash([]api.Fate{{Kind: 2, At: 55}})
	tells(t, "torn", s, 255, "first")
	newestIs(t, "torn", s, 0x1fe)
	writes(t, "torn", s, "fourth", 0x1ff)
	tells(t, "fourth", s, 0x1ff, "fourth")
}

func TestWriteOfTextsOfAllLengths(t *testing.T) { // P6.2
	for _, k := range []int{1, 2, 3, 64} {
		for _, n := range []int{0, 1, 2, 42, 43, 44, 85, 86, 87, 43*k - 44, 43*k - 43, 43*k - 42, 43*k - 1, 43 * k} {
			if n < 0 || n > 43*k {
				continue
			}
			d, s := both(t, k)
			tellsNone(t, "nothing", s)
			data := mixed(n, n)
			writes(t, "first", s, data, 1)
			has(t, fmt.Sprintf("%d bytes in %d sectors", n, k), d, 0, sectorsOf(t, k, 1, data)...)
			tells(t, "first", s, 1, data)
			writes(t, "second", s, data, 2)
			has(t, fmt.Sprintf("%d bytes in %d sectors", n, k), d, k, sectorsOf(t, k, 2, data)...)
			tells(t, "second", s, 2, data)
		}
	}
}

func TestWriteOfTextsThatAreTooLong(t *testing.T) { // P6.2, R2, R5
	for _, k := range []int{1, 2, 64} {
		d, s := both(t, k)
		for _, n := range []int{43*k + 1, 43*k + 2, 43*k + 43, 86*k + 1, 64 * k * 2, 1 << 20} {
			data := mixed(1, n)
			// Too long is named first: ahead of a Read it is no other error.
			refuses(t, "not read", made(t, d, 0, k), data, api.ErrArg)
			tellsNone(t, "nothing", s)
			refuses(t, "read", s, data, api.ErrArg)
			newestIs(t, "read", s, 0)
		}
		if d.Open() != 0 {
			t.Errorf("%d writes of texts that are too long", d.Open())
		}
		// What was refused has not failed.
		writes(t, "behind it", s, "a", 1)
		has(t, "behind it", d, 0, sectorsOf(t, k, 1, "a")...)
		d.Fail(1)
		refuses(t, "fails", s, "b", api.ErrIO)
		refuses(t, "too long, behind one that failed", s, mixed(1, 43*k+1), api.ErrArg)
		refuses(t, "behind one that failed", s, mixed(1, 43*k), api.ErrState)
		lies(t, d, 0, sectorsOf(t, k, last, "a")...)
		tells(t, "no epoch left", s, last, "a")
		refuses(t, "too long, and no epoch left", s, mixed(1, 43*k+1), api.ErrArg)
	}
}

func TestWriteAheadOfARead(t *testing.T) { // P6.2
	d, s := both(t, 2)
	for range 3 {
		refuses(t, "not read", s, "a", api.ErrState)
		refuses(t, "not read", s, "", api.ErrState)
		newestIs(t, "not read", s, 0)
	}
	counted(t, "not read", d, 0, 0)
	tellsNone(t, "nothing", s)
	writes(t, "read", s, "a", 1)
	writes(t, "read", s, "b", 2)
}

func TestWriteBehindAWriteThatFailed(t *testing.T) { // P6.2
	for n := 1; n <= 3; n++ {
		d, s := both(t, 2)
		tellsNone(t, "nothing", s)
		writes(t, "first", s, "a", 1)
		d.Fail(n)
		refuses(t, "fails", s, "b", api.ErrIO)
		open := d.Open()
		for range 3 {
			refuses(t, "behind it", s, "c", api.ErrState)
			newestIs(t, "behind it", s, 2)
		}
		if d.Open() != open {
			t.Errorf("a Write behind one that failed wrote %d sectors", d.Open()-open)
		}
		// A Read that fails does not make it good again, one that does not fail does.
		d.Fail(4)
		refusesRead(t, "fails", s, api.ErrIO)
		refuses(t, "behind a Read that failed", s, "c", api.ErrState)
		d.Crash(nil)
		tells(t, "all lost", s, 1, "a")
		writes(t, "read again", s, "d", 2)
		tells(t, "written", s, 2, "d")
	}
}

func TestWriteWithNoEpochLeft(t *testing.T) { // P6.2
	for slot := range 2 {
		d, s := both(t, 2)
		lies(t, d, slot*2, sectorsOf(t, 2, last-1, "one less")...)
		tells(t, "one less", s, last-1, "one less")
		writes(t, "the last epoch", s, "at last", last)
		newestIs(t, "the last epoch", s, last)
		was := all(t, d)
		for range 2 {
			for range 3 { // what is refused changes nothing
				refuses(t, "no epoch left", s, "a", api.ErrOver)
				newestIs(t, "no epoch left", s, last)
			}
			tells(t, "the last epoch", s, last, "at last")
		}
		has(t, "no epoch left", d, 0, was...)
		if d.Open() != 0 {
			t.Errorf("%d writes without an epoch", d.Open())
		}
		refuses(t, "not read", made(t, d, 0, 2), "a", api.ErrState)
		d.Fail(1)
		refusesRead(t, "fails", s, api.ErrIO)
		refuses(t, "not read", s, "a", api.ErrState)
	}
	// A torn sector of the last epoch leaves none either.
	d, s := both(t, 1)
	lies(t, d, 0, sector(t, 3, 0, "a"), strings.Repeat("x", 48)+strings.Repeat("\xff", 8)+strings.Repeat("\x00", 8))
	tells(t, "torn", s, 3, "a")
	newestIs(t, "torn", s, last)
	refuses(t, "torn", s, "b", api.ErrOver)
}

func TestWriteThatFailsWithTheLastEpoch(t *testing.T) { // P6.2
	d, s := both(t, 1)
	lies(t, d, 0, sector(t, last-1, 0, "a"))
	tells(t, "one less", s, last-1, "a")
	d.Fail(2)
	refuses(t, "flush fails", s, "b", api.ErrIO)
	newestIs(t, "flush fails", s, last)
	refuses(t, "state is named ahead of over", s, "b", api.ErrState)
	tells(t, "open", s, last, "b")
	refuses(t, "no epoch left", s, "c", api.ErrOver)
	d.Crash(nil)
	tells(t, "lost", s, last-1, "a")
	writes(t, "lost", s, "d", last)
}

// TestWhichSlotAWriteGoesTo: not to the one that was told by Read, or written last; to the first, if none was.
func TestWhichSlotAWriteGoesTo(t *testing.T) { // P6.2
	for _, k := range []int{1, 2, 3} {
		none := slices.Repeat([]string{strings.Repeat("\x00", 64)}, k)
		first, second := sectorsOf(t, k, 5, "first"), sectorsOf(t, k, 5, "second")
		older, torn := sectorsOf(t, k, 4, "older"), slices.Clone(sectorsOf(t, k, 6, "torn"))
		torn[k-1] = "x" + torn[k-1][1:]
		cases := []struct {
			what          string
			first, second []string
			epoch         uint64
			to            int
		}{
			{"none", none, none, 1, 0},
			{"the first told, none in the second", first, none, 6, 1},
			{"the second told, none in the first", none, second, 6, 0},
			{"the first told, older in the second", first, older, 6, 1},
			{"the second told, older in the first", older, second, 6, 0},
			{"both of the same epoch", first, second, 6, 0},
			{"the first told, torn in the second", first, torn, 7, 1},
			{"the second told, torn in the first", torn, second, 7, 0},
			{"both torn", torn, torn, 7, 0},
		}
		for _, x := range cases {
			d, s := both(t, k)
			lies(t, d, 0, x.first...)
			lies(t, d, k, x.second...)
			want := [2][]string{x.first, x.second}
			s.Read()
			for i := range 4 { // and then to each in turn
				data := fmt.Sprint("data ", i)
				writes(t, x.what, s, data, x.epoch+uint64(i))
				want[(x.to+i)%2] = sectorsOf(t, k, x.epoch+uint64(i), data)
				has(t, fmt.Sprintf("%s, write %d", x.what, i), d, 0, append(slices.Clone(want[0]), want[1]...)...)
			}
			tells(t, x.what, s, x.epoch+3, "data 3")
			writes(t, x.what, s, "behind a Read", x.epoch+4)
			want[x.to] = sectorsOf(t, k, x.epoch+4, "behind a Read")
			has(t, x.what, d, 0, append(slices.Clone(want[0]), want[1]...)...)
		}
	}
}

// TestWriteOverALongerText: of the sectors that data doesn't fill, nothing old is left.
func TestWriteOverALongerText(t *testing.T) { // P6.2
	d, s := both(t, 3)
	tellsNone(t, "nothing", s)
	writes(t, "long", s, mixed(1, 129), 1)
	writes(t, "long", s, mixed(2, 129), 2)
	writes(t, "short", s, "a", 3)
	has(t, "short", d, 0, sector(t, 3, 0, "a"), sector(t, 3, 1, ""), sector(t, 3, 2, ""))
	tells(t, "short", s, 3, "a")
	writes(t, "empty", s, "", 4)
	has(t, "empty", d, 3, sector(t, 4, 0, ""), sector(t, 4, 1, ""), sector(t, 4, 2, ""))
	tells(t, "empty", s, 4, "")
}

func TestWriteFlushes(t *testing.T) { // P6.2
	d := disk.New(5)
	s := made(t, d, 0, 2)
	tellsNone(t, "nothing", s)
	d.Write(4, mixed(1, 64)) // an open write of another owner of the disk
	writes(t, "first", s, "a", 1)
	counted(t, "written", d, 0, 4)
	if n := d.Crash(nil); n != 0 {
		t.Errorf("a crash behind a Write took %d writes", n)
	}
	has(t, "behind a crash", d, 0, sector(t, 1, 0, "a"), sector(t, 1, 1, ""), strings.Repeat("\x00", 64), strings.Repeat("\x00", 64), mixed(1, 64))
	tells(t, "behind a crash", s, 1, "a")
}

// TestWriteWithEachOperationFailing: it ends at the first one that fails, with the sectors ahead of it open.
func TestWriteWithEachOperationFailing(t *testing.T) { // P6.2
	for _, k := range []int{1, 2, 3, 64} {
		for n := 1; n <= k+1; n++ {
			what := fmt.Sprintf("operation %d of %d", n, k+1)
			d, s := both(t, k)
			tellsNone(t, "nothing", s)
			writes(t, "first", s, "a", 1)
			reads := d.Reads()
			d.Fail(n)
			refuses(t, what, s, mixed(n, 43*k), api.ErrIO)
			counted(t, what, d, n-1, reads)
			newestIs(t, what, s, 2)
			want := append(sectorsOf(t, k, 1, "a"), sectorsOf(t, k, 2, mixed(n, 43*k))...)
			for i := k + n - 1; i < 2*k; i++ {
				want[i] = strings.Repeat("\x00", 64)
			}
			has(t, what, d, 0, want...)
			d.Crash(slices.Repeat([]api.Fate{{Kind: 1}}, n-1))
			has(t, what, d, 0, want...)
			if n == k+1 { // all was written, and none of it lost
				tells(t, what, s, 2, mixed(n, 43*k))
			} else {
				tells(t, what, s, 1, "a")
			}
			epoch := uint64(2)
			if n == 1 {
				epoch = 1
			}
			newestIs(t, what, s, epoch)
			writes(t, what, s, "b", epoch+1)
			tells(t, what, s, epoch+1, "b")
		}
		d, s := both(t, k)
		tellsNone(t, "nothing", s)
		d.Fail(k + 2)
		writes(t, "one behind", s, "a", 1)
		refusesRead(t, "one behind", s, api.ErrIO)
	}
}

// fates are what may become of n writes: all of them in each way of the list.
func fates(n int, ways []api.Fate) [][]api.Fate {
	if n == 0 {
		return [][]api.Fate{nil}
	}
	var l [][]api.Fate
	for _, ahead := range fates(n-1, ways) {
		for _, way := range ways {
			l = append(l, append(slices.Clone(ahead), way))
		}
	}
	return l
}

// ways are what may become of one write: lost, whole, or torn in each of these places.
func ways(torn ...int) []api.Fate {
	l := []api.Fate{{Kind: 0}, {Kind: 1}}
	for _, at := range torn {
		l = append(l, api.Fate{Kind: 2, At: at})
	}
	return l
}

// before are disks with two slots of k sectors, by what was written to them, each with the snapshot that a Read tells of it (of epoch 0: none).
func before(t *testing.T, k int, data string) map[string]func() (*disk.Disk, api.Snap) {
	t.Helper()
	with := func(first, second []string, told api.Snap) func() (*disk.Disk, api.Snap) {
		return func() (*disk.Disk, api.Snap) {
			d := disk.New(2 * k)
			lies(t, d, 0, first...)
			lies(t, d, k, second...)
			return d, told
		}
	}
	torn := sectorsOf(t, k, 8, data)
	torn[0] = torn[0][:30] + "!" + torn[0][31:]
	return map[string]func() (*disk.Disk, api.Snap){
		"nothing":                 with(nil, nil, api.Snap{}),
		"one":                     with(sectorsOf(t, k, 1, data), nil, api.Snap{Epoch: 1, Data: data}),
		"two":                     with(sectorsOf(t, k, 1, "older"), sectorsOf(t, k, 2, data), api.Snap{Epoch: 2, Data: data}),
		"two, and a carry":        with(sectorsOf(t, k, 255, data), sectorsOf(t, k, 254, "older"), api.Snap{Epoch: 255, Data: data}),
		"two of the same bytes":   with(sectorsOf(t, k, 7, data), sectorsOf(t, k, 6, data), api.Snap{Epoch: 7, Data: data}),
		"one, and a torn one":     with(sectorsOf(t, k, 7, data), torn, api.Snap{Epoch: 7, Data: data}),
		"a torn one":              with(torn, nil, api.Snap{}),
		"two, up to the greatest": with(sectorsOf(t, k, last-2, "older"), sectorsOf(t, k, last-1, data), api.Snap{Epoch: last - 1, Data: data}),
	}
}

// crashed looks at a Write that a crash ends with its n-th operation, with these fates: behind it the old snapshot is told, or the new one; and a Write is fine again.
func crashed(t *testing.T, what string, k, n int, l []api.Fate, data string, begin func() (*disk.Disk, api.Snap)) {
	t.Helper()
	d, old := begin()
	s := made(t, d, 0, k)
	s.Read()
	fresh := api.Snap{Epoch: s.Newest() + 1, Data: data}
	d.Fail(n)
	refuses(t, what, s, data, api.ErrIO)
	whole := d.Crash(l) == 0 && n == k+1
	again := made(t, d, 0, k)
	snap, ok, err := again.Read()
	if err != api.OK || ok != (snap.Epoch > 0) || snap != old && snap != fresh {
		t.Fatalf("%s: %s, %t, error %d, want %s or %s", what, shown(snap), ok, err, shown(old), shown(fresh))
	}
	if whole && snap != fresh {
		t.Errorf("%s: %s, with nothing lost, want %s", what, shown(snap), shown(fresh))
	}
	if same, _, _ := s.Read(); same != snap {
		t.Errorf("%s: %s, and then %s", what, shown(snap), shown(same))
	}
	if s.Newest() == last {
		refuses(t, what, s, "behind", api.ErrOver)
		return
	}
	writes(t, what, s, "behind", s.Newest()+1)
	tells(t, what, again, s.Newest(), "behind")
}

// TestACrashInEachPlaceOfAWrite: whatever becomes of its writes.
func TestACrashInEachPlaceOfAWrite(t *testing.T) { // P6.3
	every := make([]int, 65)
	for at := range every {
		every[at] = at
	}
	places := map[int][]int{1: every, 2: {0, 1, 4, 5, 20, 47, 48, 54, 55, 56, 63, 64}, 3: {5, 48, 55, 56}}
	for k, torn := range places {
		data := mixed(k, 43*k)
		for what, begin := range before(t, k, mixed(k+7, 43*k-1)) {
			for n := 1; n <= k+1; n++ {
				for _, l := range fates(n-1, ways(torn...)) {
					crashed(t, fmt.Sprintf("k %d, %s, operation %d, fates %v", k, what, n, l), k, n, l, data, begin)
				}
			}
		}
	}
}

// TestACrashOfAWriteOfTheSameText: even then the epochs tell both apart.
func TestACrashOfAWriteOfTheSameText(t *testing.T) { // P6.3
	for what, begin := range before(t, 2, "the same") {
		for n := 1; n <= 3; n++ {
			for _, l := range fates(n-1, ways(0, 5, 20, 48, 54, 55, 56, 64)) {
				crashed(t, fmt.Sprintf("%s, operation %d, fates %v", what, n, l), 2, n, l, "the same", begin)
			}
		}
	}
}

// TestACrashOfADiskWithOthersWrites: those of another owner do not matter.
func TestACrashOfADiskWithOthersWrites(t *testing.T) { // P6.3
	for _, l := range fates(4, ways(20, 55)) {
		d := disk.New(6)
		s := made(t, d, 1, 2)
		tellsNone(t, "nothing", s)
		writes(t, "first", s, "a", 1)
		d.Write(0, mixed(1, 64))
		d.Write(5, mixed(2, 64))
		d.Fail(3)
		refuses(t, "second", s, "b", api.ErrIO)
		d.Crash(l)
		snap, ok, err := s.Read()
		if old, fresh := (api.Snap{Epoch: 1, Data: "a"}), (api.Snap{Epoch: 2, Data: "b"}); snap != old && snap != fresh || !ok || err != api.OK {
			t.Errorf("fates %v: %s, %t, error %d", l, shown(snap), ok, err)
		}
	}
}

// TestAFlushKeepsWhatAFailedWriteLeft: a Write that failed, without a crash, leaves open writes, which a Read tells. Once they are flushed, no crash of the next Write takes them.
func TestAFlushKeepsWhatAFailedWriteLeft(t *testing.T) { // P6.3
	for k := 1; k <= 2; k++ {
		for n := 1; n <= k+1; n++ {
			for _, l := range fates(k, ways(5, 48, 55)) {
				d, s := both(t, k)
				tellsNone(t, "nothing", s)
				writes(t, "first", s, "a", 1)
				d.Fail(n)
				refuses(t, "second", s, "b", api.ErrIO)
				if err := d.Flush(); err != api.OK {
					t.Fatalf("flush: error %d", err)
				}
				told, _, _ := s.Read()
				fresh := api.Snap{Epoch: s.Newest() + 1, Data: "c"}
				d.Fail(k + 1)
				refuses(t, "third", s, "c", api.ErrIO)
				d.Crash(l)
				if snap, ok, err := s.Read(); snap != told && snap != fresh || !ok || err != api.OK {
					t.Errorf("operation %d of %d, fates %v: %s, %t, error %d, want %s or %s", n, k+1, l, shown(snap), ok, err, shown(told), shown(fresh))
				}
			}
		}
	}
}

// TestCrashBehindCrash: of a long row of Writes, each ended by a crash, a snapshot is always there, and it never becomes older.
func TestCrashBehindCrash(t *testing.T) { // P6.3
	for k := 1; k <= 5; k++ {
		d, s := both(t, k)
		tellsNone(t, "nothing", s)
		writes(t, "first", s, mixed(0, 43*k), 1)
		told, _, _ := s.Read()
		x := uint64(k) + 77
		for i := range 2000 {
			x = drawn(x)
			data := mixed(i, int(x%uint64(43*k+1)))
			fresh := api.Snap{Epoch: s.Newest() + 1, Data: data}
			d.Fail(int(x>>20%uint64(k+3)) + 1) // the last two fail behind the Write
			epoch, err := s.Write(data)
			if err == api.OK {
				told = fresh
			} else if epoch != 0 || err != api.ErrIO {
				t.Fatalf("write %d: %d, error %d", i, epoch, err)
			}
			l := make([]api.Fate, k)
			for j := range l {
				x = drawn(x)
				l[j] = api.Fate{Kind: int(x >> 8 % 3), At: int(x >> 16 % 65)}
			}
			d.Crash(l)
			snap, ok, err := s.Read()
			if !ok || err != api.OK || snap != told && snap != fresh {
				t.Fatalf("write %d: %s, %t, error %d, want %s or %s", i, shown(snap), ok, err, shown(told), shown(fresh))
			}
			told = snap
		}
	}
}

func TestManySnapshotsOneBehindTheOther(t *testing.T) { // P6.1, P6.2
	for _, k := range []int{1, 2, 5} {
		d, s := both(t, k)
		tellsNone(t, "nothing", s)
		for i := 1; i <= 600; i++ {
			data := mixed(i, i*7%(43*k+1))
			writes(t, "one of many", s, data, uint64(i))
			newestIs(t, "one of many", s, uint64(i))
			if i%5 == 0 { // without a Read between, and with one
				tells(t, "one of many", s, uint64(i), data)
			}
			tells(t, "of another reader", made(t, d, 0, k), uint64(i), data)
			// The one ahead of it is in the other slot.
			if i > 1 {
				has(t, "the one ahead", d, (i%2)*k, sectorsOf(t, k, uint64(i-1), mixed(i-1, (i-1)*7%(43*k+1)))...)
			}
		}
	}
}

func TestSeveralSlotsOnOneDisk(t *testing.T) { // R4
	d := disk.New(10)
	a, b := made(t, d, 0, 2), made(t, d, 4, 3)
	tellsNone(t, "a", a)
	tellsNone(t, "b", b)
	writes(t, "a", a, "first of a", 1)
	writes(t, "b", b, "first of b", 1)
	writes(t, "b", b, "second of b", 2)
	tells(t, "a", a, 1, "first of a")
	tells(t, "b", b, 2, "second of b")
	d.Fail(1)
	refuses(t, "a", a, "second of a", api.ErrIO)
	refuses(t, "a", a, "second of a", api.ErrState)
	writes(t, "b", b, "third of b", 3)
	refusesRead(t, "nil", nil, api.ErrArg)
	tells(t, "a", a, 1, "first of a")
}

// TestWhatIsHandedInAndToldIsItsOwners: bytes of which a text was made, or which are made of one, may be changed.
func TestWhatIsHandedInAndToldIsItsOwners(t *testing.T) { // R3
	for _, n := range []int{1, 43, 44, 129} {
		d, s := both(t, 3)
		tellsNone(t, "nothing", s)
		bytes := []byte(mixed(1, n))
		data := string(bytes)
		writes(t, "first", s, data, 1)
		for i := range bytes {
			bytes[i] = 'x'
		}
		if data != mixed(1, n) {
			t.Errorf("a Write changed what was handed in")
		}
		tells(t, "bytes changed", s, 1, mixed(1, n))
		told, _, _ := s.Read()
		was := []byte(told.Data)
		for i := range was {
			was[i] = 'y'
		}
		writes(t, "second", s, mixed(2, n), 2)
		writes(t, "third", s, mixed(3, n), 3)
		lies(t, d, 0, slices.Repeat([]string{mixed(4, 64)}, 6)...)
		d.Crash(nil)
		if want := (api.Snap{Epoch: 1, Data: mixed(1, n)}); told != want {
			t.Errorf("what was told became %s, was %s", shown(told), shown(want))
		}
	}
	// A snapshot may be written again as it was told.
	d, s := both(t, 2)
	tellsNone(t, "nothing", s)
	writes(t, "first", s, mixed(5, 80), 1)
	told, _, _ := s.Read()
	told.Epoch = 99
	writes(t, "second", s, told.Data, 2)
	has(t, "again", d, 2, sectorsOf(t, 2, 2, mixed(5, 80))...)
	tells(t, "again", s, 2, mixed(5, 80))
}

func TestReadTwiceIsTheSame(t *testing.T) { // P6.1, R4
	d, s := both(t, 2)
	lies(t, d, 0, sectorsOf(t, 2, 3, "first")...)
	lies(t, d, 2, sectorsOf(t, 2, 4, "second")...)
	for range 3 {
		tells(t, "again", s, 4, "second")
		newestIs(t, "again", s, 4)
	}
	has(t, "read", d, 0, append(sectorsOf(t, 2, 3, "first"), sectorsOf(t, 2, 4, "second")...)...)
	counted(t, "read", d, 0, 16)
}

func TestNilSlots(t *testing.T) { // P1, R1: a nil one
	var s *Slots
	for range 2 {
		refusesRead(t, "nil", s, api.ErrArg)
		for _, data := range []string{"", "a", mixed(1, 43), mixed(1, 3000)} {
			refuses(t, "nil", s, data, api.ErrArg)
		}
		newestIs(t, "nil", s, 0)
		if s.Room() != 0 {
			t.Errorf("Room of a nil one: %d", s.Room())
		}
	}
}

// TestZeroSlots: the chapter says nothing of one; it has no sectors, and is as a nil one.
func TestZeroSlots(t *testing.T) { // P1
	s := &Slots{}
	for range 2 {
		refusesRead(t, "zero", s, api.ErrArg)
		for _, data := range []string{"", "a", mixed(1, 3000)} {
			refuses(t, "zero", s, data, api.ErrArg)
		}
		newestIs(t, "zero", s, 0)
		if s.Room() != 0 {
			t.Errorf("Room of a zero one: %d", s.Room())
		}
	}
}

// model is two slots as the chapter's words tell them, one by one.
type model struct {
	d            *disk.Disk
	at, k        int
	read, failed bool
	newest       uint64
	// kept is the slot that was told or written last, -1 if none was.
	kept int
}

func (m *model) Read() (api.Snap, bool, api.Errno) {
	m.read, m.failed, m.newest, m.kept = false, false, 0, -1
	var l []string
	for i := range 2 * m.k {
		s, err := m.d.Read(m.at + i)
		if err != api.OK {
			m.newest = 0
			return api.Snap{}, false, api.ErrIO
		}
		l = append(l, s)
		epoch, _, _ := frame.Tag(s)
		m.newest = max(m.newest, epoch)
	}
	m.read = true
	var told api.Snap
	for slot := range 2 {
		epoch, _, _ := frame.Tag(l[slot*m.k])
		whole, data := epoch >= 1, ""
		for i, s := range l[slot*m.k:][:m.k] {
			whole = whole && frame.Whole(s, epoch, uint64(i))
			c, _ := frame.Read(s)
			data += c.Payload
		}
		if whole && (m.kept < 0 || epoch >= told.Epoch) {
			m.kept, told = slot, api.Snap{Epoch: epoch, Data: data}
		}
	}
	return told, m.kept >= 0, api.OK
}

func (m *model) Write(data string) (uint64, api.Errno) {
	if len(data) > 43*m.k {
		return 0, api.ErrArg
	}
	if !m.read || m.failed {
		return 0, api.ErrState
	}
	if m.newest == last {
		return 0, api.ErrOver
	}
	m.newest++
	to := 0
	if m.kept == 0 {
		to = 1
	}
	chunks := frame.Chunks(data)
	for i := range m.k {
		part := ""
		if i < len(chunks) {
			part = chunks[i]
		}
		s, _ := frame.Make(api.Cell{Payload: part, Epoch: m.newest, Number: uint64(i)})
		if m.d.Write(m.at+to*m.k+i, s) != api.OK {
			m.failed = true
			return 0, api.ErrIO
		}
	}
	if m.d.Flush() != api.OK {
		m.failed = true
		return 0, api.ErrIO
	}
	m.kept = to
	return m.newest, api.OK
}

// meddled is a sector of some kind that another hand may leave among those of the slots.
func meddled(t *testing.T, x uint64, k int, newest uint64) string {
	t.Helper()
	epoch := newest - 2 + x>>4%5
	whole := sector(t, epoch, x>>8%uint64(k+1), mixed(int(x>>12%100), int(x>>20%44)))
	switch x % 5 {
	case 0:
		return mixed(int(x>>30%1000), 64)
	case 1:
		at := int(x >> 32 % 64)
		return whole[:at] + string([]byte{byte(x >> 40)}) + whole[at+1:]
	default:
		return whole
	}
}

func TestLongRowsOfCalls(t *testing.T) { // P6.1, P6.2
	for seed := range 60 {
		k, at := seed%4+1, seed%3
		d, twin := disk.New(at+2*k+1), disk.New(at+2*k+1)
		s, m := made(t, d, at, k), &model{d: twin, at: at, k: k, kept: -1}
		x := uint64(seed)*977 + 12345
		for range 20 {
			x = drawn(x)
		}
		for step := range 600 {
			x = drawn(x)
			what := fmt.Sprintf("seed %d, step %d", seed, step)
			y := x >> 8
			switch x % 16 {
			case 0, 1, 2:
				snap, ok, err := s.Read()
				snap2, ok2, err2 := m.Read()
				if snap != snap2 || ok != ok2 || err != err2 {
					t.Fatalf("%s: Read: %s, %t, error %d, want %s, %t, error %d", what, shown(snap), ok, err, shown(snap2), ok2, err2)
				}
			case 3, 4, 5, 6, 7, 8, 9:
				data := mixed(step, int(y%uint64(43*k+2)))
				epoch, err := s.Write(data)
				epoch2, err2 := m.Write(data)
				if epoch != epoch2 || err != err2 {
					t.Fatalf("%s: Write: %d, error %d, want %d, error %d", what, epoch, err, epoch2, err2)
				}
			case 10, 11:
				n := int(y%uint64(2*k+3)) - 1
				d.Fail(n)
				twin.Fail(n)
			case 12, 13:
				l := make([]api.Fate, y%uint64(2*k+2))
				for i := range l {
					x = drawn(x)
					l[i] = api.Fate{Kind: int(x >> 5 % 3), At: int(x >> 16 % 65)}
				}
				if a, b := d.Crash(l), twin.Crash(l); a != b {
					t.Fatalf("%s: Crash: %d, want %d", what, a, b)
				}
			default:
				over := m.newest
				if y%50 == 0 {
					over = last - 1
				}
				text, place := meddled(t, y, k, over), int(y>>50%uint64(d.Len()))
				d.Write(place, text)
				twin.Write(place, text)
			}
			if s.Newest() != m.newest {
				t.Fatalf("%s: Newest: %d, want %d", what, s.Newest(), m.newest)
			}
			counted(t, what, d, twin.Open(), twin.Reads())
		}
		d.Fail(0)
		twin.Fail(0)
		has(t, fmt.Sprintf("seed %d", seed), d, 0, all(t, twin)...)
	}
}
