package frame

import (
	"fmt"
	"hash/crc32"
	"math"
	"strings"
	"testing"

	"horarium/api"
)

// mixed is a text of n bytes of all kinds, the same in every run.
func mixed(n int) string {
	b := make([]byte, n)
	x := uint64(88172645463325252)
	for i := range b {
		x ^= x << 13
		x ^= x >> 7
		x ^= x << 17
		b[i] = byte(x >> 24)
	}
	return string(b)
}

// eight is n in eight bytes, the greatest first, as the chapter's words tell it.
func eight(n uint64) string {
	return string([]byte{byte(n >> 56), byte(n >> 48), byte(n >> 40), byte(n >> 32), byte(n >> 24), byte(n >> 16), byte(n >> 8), byte(n)})
}

// summed is a sector with that first byte, the sum of what says it, and that middle up to the tag.
func summed(size byte, says, middle string, epoch, number uint64) string {
	tag := eight(epoch) + eight(number)
	sum := crc32.ChecksumIEEE([]byte(says + tag))
	return string([]byte{size, byte(sum >> 24), byte(sum >> 16), byte(sum >> 8), byte(sum)}) + middle + tag
}

// worded is the cell's sector, as the chapter's words tell it.
func worded(c api.Cell) string {
	return summed(byte(len(c.Payload)), c.Payload, c.Payload+strings.Repeat("\x00", 43-len(c.Payload)), c.Epoch, c.Number)
}

func payloads() []string {
	l := []string{"", "\x00", "a", "\xff", "go", "a\x00", "\x00a", "a\x00\x00", "é", "\xff\xfe\xfd"}
	for _, n := range []int{1, 2, 16, 42, 43} {
		l = append(l, mixed(n), strings.Repeat("\x00", n), strings.Repeat("\xff", n))
	}
	for n := range 44 {
		l = append(l, mixed(100)[n:2*n])
	}
	every := make([]byte, 256)
	for i := range every {
		every[i] = byte(i)
	}
	for at := 0; at < 256; at += 32 {
		l = append(l, string(every[at:at+32]))
	}
	return l
}

func nums() []uint64 {
	return []uint64{0, 1, 2, 255, 256, 258, 1<<32 - 1, 1 << 32, 0x0102030405060708, 1<<63 - 1, 1 << 63, math.MaxUint64 - 1, math.MaxUint64}
}

// cells are those of all payloads, with epochs and numbers that go through all edges.
func cells() []api.Cell {
	var l []api.Cell
	for i, p := range payloads() {
		n := nums()
		l = append(l, api.Cell{Payload: p, Epoch: n[i%len(n)], Number: n[(i+5)%len(n)]})
	}
	for _, e := range nums() {
		for _, n := range nums() {
			l = append(l, api.Cell{Epoch: e, Number: n}, api.Cell{Payload: "go", Epoch: e, Number: n}, api.Cell{Payload: mixed(43), Epoch: e, Number: n})
		}
	}
	return l
}

// made is the cell's sector, by Make.
func made(t *testing.T, c api.Cell) string {
	t.Helper()
	s, err := Make(c)
	if err != api.OK {
		t.Fatalf("Make(%#v): error %d", c, err)
	}
	return s
}

// refused looks at what is told of s, which is no cell's sector.
func refused(t *testing.T, what, s string) {
	t.Helper()
	if c, ok := Read(s); c != (api.Cell{}) || ok {
		t.Errorf("%s: Read(%x): %#v %v, want nothing, false", what, s, c, ok)
	}
	epoch, number, _ := Tag(s)
	if Whole(s, epoch, number) || Whole(s, 0, 0) {
		t.Errorf("%s: Whole(%x): yes", what, s)
	}
}

func TestMakeIsTheSectorOfTheWords(t *testing.T) { // P4.1
	for _, c := range cells() {
		got, err := Make(c)
		if want := worded(c); got != want || err != api.OK {
			t.Errorf("Make(%#v): %x, error %d, want %x", c, got, err, want)
		}
		if len(got) != 64 {
			t.Errorf("Make(%#v): %d bytes", c, len(got))
		}
	}
}

func TestMakeByteByByte(t *testing.T) { // P4.1
	// The sums are those of CRC-32 of the payload and the sixteen bytes, worked out beside this program.
	cases := []struct {
		c    api.Cell
		want string
	}{
		{api.Cell{}, "00ecbb4b55" + strings.Repeat("00", 43) + "0000000000000000" + "0000000000000000"},
		{api.Cell{Payload: "go", Epoch: 258, Number: 9}, "026c7192be676f" + strings.Repeat("00", 41) + "0000000000000102" + "0000000000000009"},
		{api.Cell{Payload: strings.Repeat("\xff", 43), Epoch: math.MaxUint64, Number: 1}, "2b644f5c2c" + strings.Repeat("ff", 43) + "ffffffffffffffff" + "0000000000000001"},
	}
	for _, x := range cases {
		if got := fmt.Sprintf("%x", made(t, x.c)); got != x.want {
			t.Errorf("Make(%#v):\n%s, want\n%s", x.c, got, x.want)
		}
	}
}

func TestMakeOfAPayloadThatIsTooLong(t *testing.T) { // P4.1, R2, R5
	for _, n := range []int{44, 45, 48, 59, 64, 255, 256, 257, 299, 300, 1 << 20} {
		for _, p := range []string{mixed(n), strings.Repeat("\x00", n)} {
			if s, err := Make(api.Cell{Payload: p, Epoch: 3, Number: 7}); s != "" || err != api.ErrArg {
				t.Errorf("Make of %d bytes: %x, error %d, want nothing, 1", n, s, err)
			}
		}
	}
}

func TestTheLastSixteenBytesOfTheExample(t *testing.T) { // the chapter's example
	const want = "\x00\x00\x00\x00\x00\x00\x00\x03\x00\x00\x00\x00\x00\x00\x00\x07"
	for _, p := range payloads() {
		s := made(t, api.Cell{Payload: p, Epoch: 3, Number: 7})
		if s[48:] != want {
			t.Errorf("Make of %q: the last sixteen bytes are %x", p, s[48:])
		}
		if epoch, number, ok := Tag(s); epoch != 3 || number != 7 || !ok {
			t.Errorf("Tag of it: %d %d %v", epoch, number, ok)
		}
	}
}

func TestReadIsTheCellOfItsSector(t *testing.T) { // P4.1
	for _, c := range cells() {
		for _, s := range []string{made(t, c), worded(c)} {
			if got, ok := Read(s); got != c || !ok {
				t.Errorf("Read(%x): %#v %v, want %#v true", s, got, ok, c)
			}
		}
	}
}

func TestReadOfASectorOfWhichOneByteIsAnother(t *testing.T) { // P4.1
	some := []api.Cell{
		{},
		{Payload: "go", Epoch: 258, Number: 9},
		{Payload: "\x00", Epoch: 1, Number: 0},
		{Payload: "a\x00\x00", Epoch: 1, Number: 1},
		{Payload: mixed(42), Epoch: 3, Number: 7},
		{Payload: mixed(43), Epoch: math.MaxUint64, Number: math.MaxUint64},
	}
	for _, c := range some {
		s := made(t, c)
		for at := range s {
			for other := range 256 {
				if byte(other) == s[at] {
					continue
				}
				b := []byte(s)
				b[at] = byte(other)
				refused(t, fmt.Sprintf("byte %d as %02x", at, other), string(b))
				if Whole(string(b), c.Epoch, c.Number) {
					t.Errorf("byte %d as %02x: whole", at, other)
				}
			}
		}
	}
}

func TestReadOfASectorThatIsCutOrTooLong(t *testing.T) { // P4.1
	for _, c := range []api.Cell{{}, {Payload: "go", Epoch: 258, Number: 9}, {Payload: mixed(43), Epoch: 1, Number: 2}} {
		s := made(t, c)
		for n := range 64 {
			refused(t, fmt.Sprintf("its first %d bytes", n), s[:n])
			refused(t, fmt.Sprintf("its last %d bytes", n), s[64-n:])
		}
		for _, more := range []string{"\x00", "a", "\xff", s, mixed(1000)} {
			refused(t, "and more behind it", s+more)
			refused(t, "and more ahead of it", more+s)
		}
	}
}

// TestReadOfASizeAboveTheGreatest: the size alone is wrong: the sum is right, of as many bytes as it tells, of 43, or of none.
func TestReadOfASizeAboveTheGreatest(t *testing.T) { // P4.1
	for size := 44; size < 256; size++ {
		for _, middle := range []string{mixed(43), strings.Repeat("\x00", 43)} {
			all := middle + eight(3) + eight(7)
			says := all[:min(size, len(all))]
			refused(t, fmt.Sprintf("size %d", size), summed(byte(size), says, middle, 3, 7))
			refused(t, fmt.Sprintf("size %d, of 43", size), summed(byte(size), middle, middle, 3, 7))
			refused(t, fmt.Sprintf("size %d, of none", size), summed(byte(size), "", middle, 3, 7))
		}
	}
}

// TestReadOfAByteBehindThePayload: the sum is that of the payload, so the byte that isn't 00 is all that is wrong.
func TestReadOfAByteBehindThePayload(t *testing.T) { // P4.1
	for size := range 43 {
		payload := mixed(size)
		for at := size; at < 43; at++ {
			for _, other := range []byte{1, 0x80, 0xff} {
				middle := []byte(payload + strings.Repeat("\x00", 43-size))
				middle[at] = other
				refused(t, fmt.Sprintf("payload of %d, byte %d", size, at), summed(byte(size), payload, string(middle), 3, 7))
			}
		}
	}
}

// TestReadOfASumOfOtherThings: a sum that leaves out a part, or takes the parts in another order, isn't the sector's.
func TestReadOfASumOfOtherThings(t *testing.T) { // P4.1
	c := api.Cell{Payload: "go", Epoch: 258, Number: 9}
	s := worded(c)
	payload, epoch, number := "go", s[48:56], s[56:]
	wrong := []string{"", payload, payload + epoch, payload + number, epoch + number, payload + number + epoch, epoch + number + payload, s[5:], s[:1] + payload + epoch + number}
	for _, says := range wrong {
		sum := crc32.ChecksumIEEE([]byte(says))
		refused(t, fmt.Sprintf("sum of %x", says), s[:1]+string([]byte{byte(sum >> 24), byte(sum >> 16), byte(sum >> 8), byte(sum)})+s[5:])
	}
	refused(t, "its sum the other way round", s[:1]+string([]byte{s[4], s[3], s[2], s[1]})+s[5:])
	refused(t, "no sum", s[:1]+"\x00\x00\x00\x00"+s[5:])
}

func TestReadOfWhatIsNoSector(t *testing.T) { // P4.1, P1
	refused(t, "nothing", "")
	for _, b := range []string{"\x00", "a", "\xff"} {
		refused(t, "one byte 64 times", strings.Repeat(b, 64))
	}
	for n := range 200 {
		refused(t, "any bytes", mixed(300)[n:n+64])
		refused(t, "any bytes", mixed(n))
	}
	refused(t, "many bytes", mixed(1<<20))
}

// TestWhatIsReadIsMadeSo: of any bytes that are read as a cell, the cell's sector is just these.
func TestWhatIsReadIsMadeSo(t *testing.T) { // P4.1
	for _, c := range cells() {
		s := worded(c)
		for size := range 256 {
			x := string([]byte{byte(size)}) + s[1:]
			if got, ok := Read(x); ok && made(t, got) != x {
				t.Errorf("Read(%x): %#v, whose sector is %x", x, got, made(t, got))
			}
		}
	}
}

func TestTagIsWhatTheLastSixteenBytesSay(t *testing.T) { // P4.1
	for _, e := range nums() {
		for _, n := range nums() {
			for _, ahead := range []string{mixed(48), strings.Repeat("\x00", 48), strings.Repeat("\xff", 48), worded(api.Cell{Payload: "go"})[:48]} {
				if epoch, number, ok := Tag(ahead + eight(e) + eight(n)); epoch != e || number != n || !ok {
					t.Errorf("Tag of %x, %x %x: %x %x %v", ahead, e, n, epoch, number, ok)
				}
			}
		}
	}
	for _, c := range cells() {
		if epoch, number, ok := Tag(made(t, c)); epoch != c.Epoch || number != c.Number || !ok {
			t.Errorf("Tag of the sector of %#v: %d %d %v", c, epoch, number, ok)
		}
	}
}

func TestTagOfFewerAndMoreBytes(t *testing.T) { // P4.1, R2
	for n := range 300 {
		if epoch, number, ok := Tag(mixed(n)); n != 64 && (epoch != 0 || number != 0 || ok) {
			t.Errorf("Tag of %d bytes: %d %d %v, want 0 0 false", n, epoch, number, ok)
		}
	}
	s := made(t, api.Cell{Payload: "go", Epoch: 3, Number: 7})
	for _, x := range []string{"", s[:63], s[1:], s[48:], s + "\x00", s + s, mixed(1 << 20)} {
		if epoch, number, ok := Tag(x); epoch != 0 || number != 0 || ok {
			t.Errorf("Tag of %d bytes: %d %d %v, want 0 0 false", len(x), epoch, number, ok)
		}
	}
}

func TestWholeOfItsEpochAndNumber(t *testing.T) { // P4.2
	for _, c := range cells() {
		if s := made(t, c); !Whole(s, c.Epoch, c.Number) {
			t.Errorf("Whole(%x, %d, %d): no", s, c.Epoch, c.Number)
		}
	}
}

func TestWholeOfAnotherEpochOrNumber(t *testing.T) { // P4.2
	for _, c := range cells() {
		s := made(t, c)
		for bit := range 64 {
			if Whole(s, c.Epoch^1<<bit, c.Number) || Whole(s, c.Epoch, c.Number^1<<bit) || Whole(s, c.Epoch^1<<bit, c.Number^1<<bit) {
				t.Errorf("Whole(%x) of a number whose bit %d is another: yes", s, bit)
			}
		}
		if same := c.Epoch == c.Number; Whole(s, c.Number, c.Epoch) != same {
			t.Errorf("Whole(%x) of the number and the epoch: %v, want %v", s, !same, same)
		}
	}
}

func TestWholeOfWhatIsNoSector(t *testing.T) { // P4.2, P1
	for _, s := range []string{"", "a", mixed(63), strings.Repeat("\x00", 64), mixed(64), mixed(65), mixed(1 << 16)} {
		for _, e := range nums() {
			for _, n := range nums() {
				if Whole(s, e, n) {
					t.Errorf("Whole(%d bytes, %d, %d): yes", len(s), e, n)
				}
			}
		}
	}
	// The tag is right, and the rest is not.
	if s := mixed(48) + eight(3) + eight(7); Whole(s, 3, 7) {
		t.Errorf("Whole(%x, 3, 7): yes", s)
	}
}

func TestChunksOfTheEdges(t *testing.T) { // P4.2
	cases := []struct {
		n    int
		want []int
	}{
		{0, []int{0}}, {1, []int{1}}, {42, []int{42}}, {43, []int{43}}, {44, []int{43, 1}}, {85, []int{43, 42}},
		{86, []int{43, 43}}, {87, []int{43, 43, 1}}, {129, []int{43, 43, 43}}, {130, []int{43, 43, 43, 1}},
	}
	for _, x := range cases {
		var got []int
		for _, part := range Chunks(mixed(x.n)) {
			got = append(got, len(part))
		}
		if fmt.Sprint(got) != fmt.Sprint(x.want) {
			t.Errorf("Chunks of %d bytes: parts of %v, want %v", x.n, got, x.want)
		}
	}
}

func TestChunksOfTextsOfAllLengths(t *testing.T) { // P4.2, R5
	lengths := []int{1 << 16, 43 << 10, 43<<10 + 1, 1 << 20}
	for n := range 1000 {
		lengths = append(lengths, n)
	}
	for _, n := range lengths {
		s := mixed(n)
		l := Chunks(s)
		if strings.Join(l, "") != s {
			t.Errorf("Chunks of %d bytes: they are another text", n)
		}
		if want := max(1, (n+42)/43); len(l) != want {
			t.Errorf("Chunks of %d bytes: %d parts, want %d", n, len(l), want)
		}
		for i, part := range l {
			if i < len(l)-1 && len(part) != 43 || len(part) > 43 {
				t.Errorf("Chunks of %d bytes: part %d has %d", n, i, len(part))
			}
		}
	}
}

func TestChunksAreTheCallersOwn(t *testing.T) { // R3, R4
	s := mixed(100)
	l := Chunks(s)
	for i := range l {
		l[i] = "changed"
	}
	if again := Chunks(s); strings.Join(again, "") != s || len(again) != 3 {
		t.Errorf("Chunks, again: %q", again)
	}
}

// TestEachChunkHasRoomInACell: a text cut, made, read and put together is the same.
func TestEachChunkHasRoomInACell(t *testing.T) { // P4.1, P4.2
	for _, n := range []int{0, 1, 42, 43, 44, 86, 87, 500} {
		var read strings.Builder
		for i, part := range Chunks(mixed(n)) {
			c, ok := Read(made(t, api.Cell{Payload: part, Epoch: 1, Number: uint64(i)}))
			if !ok || c.Number != uint64(i) {
				t.Errorf("part %d of %d bytes: %#v %v", i, n, c, ok)
			}
			read.WriteString(c.Payload)
		}
		if read.String() != mixed(n) {
			t.Errorf("%d bytes, cut and put together: %x", n, read.String())
		}
	}
}

// halfWritten looks at each sector whose first bytes are of the new cell's, and the others of the old one.
func halfWritten(t *testing.T, cell api.Cell, old string) {
	t.Helper()
	s := made(t, cell)
	for at := range 65 {
		torn := s[:at] + old[at:]
		just := torn == s
		if Whole(torn, cell.Epoch, cell.Number) != just {
			t.Errorf("%d bytes of %x over %x: whole %v, want %v", at, s, old, !just, just)
		}
		if c, ok := Read(torn); (ok && c == cell) != just {
			t.Errorf("%d bytes of %x over %x: Read tells %#v %v", at, s, old, c, ok)
		}
		if epoch, number, ok := Tag(torn); !ok || (epoch == cell.Epoch && number == cell.Number) != just {
			t.Errorf("%d bytes of %x over %x: Tag tells %d %d %v", at, s, old, epoch, number, ok)
		}
	}
}

func TestASectorHalfWrittenOverAnother(t *testing.T) { // P4.3
	some := cells()
	for i := 0; i < len(some); i += 7 {
		for j := 0; j < len(some); j += 11 {
			if some[i].Epoch != some[j].Epoch || some[i].Number != some[j].Number {
				halfWritten(t, some[i], made(t, some[j]))
			}
		}
	}
}

// TestASectorHalfWrittenOverOneWithANearTag: one byte of the tag alone is another, at each place, whatever the payloads are.
func TestASectorHalfWrittenOverOneWithANearTag(t *testing.T) { // P4.3
	fresh := api.Cell{Payload: mixed(43), Epoch: 0x0102030405060708, Number: 0x1112131415161718}
	for bit := range 64 {
		for _, p := range []string{fresh.Payload, "", "go", mixed(42), strings.Repeat("\xff", 43)} {
			halfWritten(t, fresh, made(t, api.Cell{Payload: p, Epoch: fresh.Epoch ^ 1<<bit, Number: fresh.Number}))
			halfWritten(t, fresh, made(t, api.Cell{Payload: p, Epoch: fresh.Epoch, Number: fresh.Number ^ 1<<bit}))
		}
	}
}

func TestASectorHalfWrittenOverAnyBytes(t *testing.T) { // P4.3
	for _, c := range []api.Cell{{Epoch: 1}, {Payload: "go", Epoch: 258, Number: 9}, {Payload: mixed(43), Epoch: math.MaxUint64, Number: 1}} {
		for _, old := range []string{strings.Repeat("\x00", 64), strings.Repeat("a", 64), mixed(64), made(t, c)[:48] + mixed(16)} {
			halfWritten(t, c, old)
		}
	}
}

// TestASectorWhoseLastByteIsStillOld: the fourth example of the whole.
func TestASectorWhoseLastByteIsStillOld(t *testing.T) { // P4.3
	fresh := api.Cell{Payload: "new", Epoch: 2, Number: 5}
	old := made(t, api.Cell{Payload: "old", Epoch: 2, Number: 4})
	torn := made(t, fresh)[:63] + old[63:]
	refused(t, "its last byte is old", torn)
	if Whole(torn, 2, 5) || Whole(torn, 2, 4) {
		t.Errorf("Whole(%x): yes", torn)
	}
}

func TestTheSameCallsHaveTheSameAnswers(t *testing.T) { // R4
	for _, c := range cells() {
		first := made(t, c)
		Read(mixed(64))
		Make(api.Cell{Payload: mixed(44)})
		Chunks("between")
		if again := made(t, c); again != first {
			t.Errorf("Make(%#v): %x, then %x", c, first, again)
		}
	}
}
