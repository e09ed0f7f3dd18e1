package crc

import (
	"hash/crc32"
	"strings"
	"sync"
	"testing"
)

const example = "123456789"

// worded is the sum of s, bit by bit, as the chapter's words tell it.
func worded(s string) uint32 {
	sum := uint32(0xffffffff)
	for i := range len(s) {
		sum ^= uint32(s[i])
		for range 8 {
			out := sum & 1
			sum >>= 1
			if out == 1 {
				sum ^= 0xedb88320
			}
		}
	}
	return ^sum
}

// mixed is a text of n bytes of all kinds, the same in every run.
func mixed(n int) string {
	b := make([]byte, n)
	x := uint64(88172645463325252)
	for i := range b {
		x ^= x << 13
		x ^= x >> 7
		x ^= x << 17
		b[i] = byte(x >> 24)
	}
	return string(b)
}

func texts() []string {
	l := []string{"", "a", "abc", example, "a\x00", "\x00a", "é", "\xff\xfe\xfd", strings.Repeat("\x00", 64), strings.Repeat("\xff", 64)}
	for b := range 256 {
		l = append(l, string([]byte{byte(b)}))
	}
	for _, n := range []int{2, 3, 4, 5, 43, 60, 63, 64, 65, 255, 256, 257, 1000} {
		l = append(l, mixed(n), strings.Repeat("\x00", n))
	}
	return l
}

func sums() []uint32 {
	l := []uint32{0, 1, 0x7f, 0x80, 0xff, 0x100, 0xffff, 0x10000, 0xffffff, 0x1000000, 0x01020304, 0x80000000, 0xcbf43926, 0xdeadbeef, 0xfffffffe, 0xffffffff}
	for bit := range 32 {
		l = append(l, 1<<bit)
	}
	return l
}

func TestSumIsThatOfTheText(t *testing.T) { // P2.1
	c := New()
	for _, s := range texts() {
		got := c.Sum(s)
		if want := worded(s); got != want {
			t.Errorf("Sum(%q): %08x, want %08x", s, got, want)
		}
		if want := crc32.ChecksumIEEE([]byte(s)); got != want {
			t.Errorf("Sum(%q): %08x, want %08x of IEEE 802.3", s, got, want)
		}
	}
}

func TestSumOfTheExamples(t *testing.T) { // P2.1, the chapter's examples
	cases := []struct {
		s    string
		want uint32
	}{
		{example, 0xcbf43926},
		{"", 0},
		{"a", 0xe8b7be43},
		{"\x00", 0xd202ef8d},
		{"\xff", 0xff000000},
		{"The quick brown fox jumps over the lazy dog", 0x414fa339},
	}
	c := New()
	for _, x := range cases {
		if got := c.Sum(x.s); got != x.want {
			t.Errorf("Sum(%q): %08x, want %08x", x.s, got, x.want)
		}
	}
}

func TestSumOfALongText(t *testing.T) { // P2.1, R5
	s := mixed(1 << 20)
	if got, want := New().Sum(s), crc32.ChecksumIEEE([]byte(s)); got != want {
		t.Errorf("Sum of 2^20 bytes: %08x, want %08x", got, want)
	}
}

func TestMoreOfATextPartedAnywhere(t *testing.T) { // P2.1
	c := New()
	for _, s := range texts() {
		want := worded(s)
		for at := range len(s) + 1 {
			if got := c.More(c.Sum(s[:at]), s[at:]); got != want {
				t.Errorf("More of %q parted at %d: %08x, want %08x", s, at, got, want)
			}
		}
	}
}

func TestMoreByteByByte(t *testing.T) { // P2.1
	c := New()
	s := mixed(300)
	sum := c.Sum("")
	for i := range len(s) {
		sum = c.More(sum, s[i:i+1])
		if want := worded(s[:i+1]); sum != want {
			t.Fatalf("More up to byte %d: %08x, want %08x", i, sum, want)
		}
	}
}

// TestMoreOfAnySum: every number is the sum of some text, also one that was never told here.
func TestMoreOfAnySum(t *testing.T) { // P2.1, P1
	c := New()
	for _, sum := range sums() {
		if got := c.More(sum, ""); got != sum {
			t.Errorf("More(%08x, nothing): %08x", sum, got)
		}
		if got, want := c.More(sum, example), crc32.Update(sum, crc32.IEEETable, []byte(example)); got != want {
			t.Errorf("More(%08x, %q): %08x, want %08x", sum, example, got, want)
		}
	}
}

func TestRightAtTheSum(t *testing.T) { // P2.1
	c := New()
	for _, s := range texts() {
		if !c.Right(s, worded(s)) {
			t.Errorf("Right(%q, its sum): no", s)
		}
	}
	if !c.Right(example, 0xcbf43926) || !c.Right("", 0) {
		t.Errorf("Right of the examples: no")
	}
}

func TestRightAtAWrongSum(t *testing.T) { // P2.1
	c := New()
	for _, s := range texts() {
		for bit := range 32 {
			if wrong := worded(s) ^ 1<<bit; c.Right(s, wrong) {
				t.Errorf("Right(%q, %08x): yes", s, wrong)
			}
		}
		if wrong := ^worded(s); c.Right(s, wrong) {
			t.Errorf("Right(%q, %08x): yes", s, wrong)
		}
	}
}

// asks are the calls that may be the first of a table: each tells the example's sum, or 0.
func asks() map[string]func(*Table) uint32 {
	return map[string]func(*Table) uint32{
		"Sum":  func(c *Table) uint32 { return c.Sum(example) },
		"More": func(c *Table) uint32 { return c.More(worded("1234"), "56789") },
		"Right": func(c *Table) uint32 {
			if c.Right(example, 0xcbf43926) {
				return 0xcbf43926
			}
			return 0
		},
	}
}

func TestATableIsMadeOnceWhenFirstAsked(t *testing.T) { // P2.1
	for name, ask := range asks() {
		c := New()
		if c.places != [256]uint32{} {
			t.Errorf("%s: the table is made ahead of being asked", name)
		}
		if got := ask(c); got != 0xcbf43926 {
			t.Errorf("%s: first asked: %08x", name, got)
		}
		made := c.places
		if made == [256]uint32{} {
			t.Errorf("%s: the table isn't made when it is asked", name)
		}
		// A place is spoilt, so that a second making would be seen.
		c.places[7]++
		spoilt := c.places
		for again, ask := range asks() {
			ask(c)
			if c.places != spoilt {
				t.Errorf("%s, then %s: the table is made again", name, again)
			}
		}
	}
}

func TestAZeroTableIsANewOne(t *testing.T) { // the sentence behind the promises
	for name, ask := range asks() {
		var zero Table
		if got := ask(&zero); got != 0xcbf43926 {
			t.Errorf("%s of a zero table: %08x", name, got)
		}
	}
	if New() == nil {
		t.Errorf("New(): nil")
	}
	for _, s := range texts() {
		if got, want := new(Table).Sum(s), New().Sum(s); got != want {
			t.Errorf("Sum(%q) of a zero table: %08x, of a new one %08x", s, got, want)
		}
	}
}

func TestANilTableTellsNothing(t *testing.T) { // the sentence behind the promises, P1
	var none *Table
	for _, s := range texts() {
		if got := none.Sum(s); got != 0 {
			t.Errorf("Sum(%q) of a nil table: %08x", s, got)
		}
		if none.Right(s, 0) || none.Right(s, worded(s)) {
			t.Errorf("Right(%q) of a nil table: yes", s)
		}
		for _, sum := range sums() {
			if got := none.More(sum, s); got != 0 {
				t.Errorf("More(%08x, %q) of a nil table: %08x", sum, s, got)
			}
		}
	}
}

func TestTablesStandByThemselves(t *testing.T) { // P2.1, R4
	spoilt, whole := New(), New()
	spoilt.Sum(example)
	spoilt.places = [256]uint32{}
	if got := whole.Sum(example); got != 0xcbf43926 {
		t.Errorf("Sum beside a spoilt table: %08x", got)
	}
	if New() == New() {
		t.Errorf("New() tells one table twice")
	}
}

func TestTheSameCallsHaveTheSameAnswers(t *testing.T) { // R4
	c := New()
	for _, s := range texts() {
		first := c.Sum(s)
		c.More(0xdeadbeef, "between")
		c.Right("between", 1)
		if again := c.Sum(s); again != first {
			t.Errorf("Sum(%q): %08x, then %08x", s, first, again)
		}
	}
}

func TestATableAskedByManyAtOnce(t *testing.T) { // P2.1: made once
	c := New()
	var told [16]uint32
	var all sync.WaitGroup
	for i := range told {
		all.Go(func() { told[i] = c.Sum(example) })
	}
	all.Wait()
	for i, got := range told {
		if got != 0xcbf43926 {
			t.Errorf("Sum asked by number %d: %08x", i, got)
		}
	}
}

func TestBytesAreTheGreatestFirst(t *testing.T) { // P2.2
	cases := []struct {
		sum  uint32
		want string
	}{
		{0, "\x00\x00\x00\x00"},
		{1, "\x00\x00\x00\x01"},
		{0x102, "\x00\x00\x01\x02"},
		{0x01020304, "\x01\x02\x03\x04"},
		{0x80000000, "\x80\x00\x00\x00"},
		{0xcbf43926, "\xcb\xf4\x39\x26"},
		{0xffffffff, "\xff\xff\xff\xff"},
	}
	for _, c := range cases {
		if got := Bytes(c.sum); got != c.want {
			t.Errorf("Bytes(%08x): %x, want %x", c.sum, got, c.want)
		}
		if got, ok := Read(c.want); got != c.sum || !ok {
			t.Errorf("Read(%x): %08x %v, want %08x true", c.want, got, ok, c.sum)
		}
	}
}

func TestBytesAndReadThereAndBack(t *testing.T) { // P2.2
	for _, sum := range sums() {
		if got, ok := Read(Bytes(sum)); got != sum || !ok {
			t.Errorf("Read(Bytes(%08x)): %08x %v", sum, got, ok)
		}
	}
	for at := range len(mixed(300)) - 3 {
		s := mixed(300)[at : at+4]
		sum, _ := Read(s)
		if got := Bytes(sum); got != s {
			t.Errorf("Bytes(Read(%x)): %x", s, got)
		}
	}
}

func TestReadTakesTheFirstFourBytes(t *testing.T) { // P2.2
	for _, sum := range sums() {
		for _, behind := range []string{"", "\x00", "z", "\xff\xff\xff\xff", mixed(1000)} {
			if got, ok := Read(Bytes(sum) + behind); got != sum || !ok {
				t.Errorf("Read(%08x and %d bytes behind it): %08x %v", sum, len(behind), got, ok)
			}
		}
	}
}

func TestReadOfFewerThanFourBytes(t *testing.T) { // P2.2, R2
	for _, s := range []string{"", "\x00", "a", "\xff", "ab", "\xff\xff", "abc", "\x00\x00\x00", "\xff\xff\xff"} {
		if got, ok := Read(s); got != 0 || ok {
			t.Errorf("Read(%q): %08x %v, want 0 false", s, got, ok)
		}
	}
}

func TestAnotherByteIsAnotherSum(t *testing.T) { // P2.3
	c := New()
	for _, s := range []string{"a", example, mixed(43), mixed(64), strings.Repeat("\x00", 64), strings.Repeat("\xff", 64)} {
		sum := c.Sum(s)
		for at := range len(s) {
			for other := range 256 {
				b := []byte(s)
				b[at] = byte(other)
				turned := string(b)
				if same := turned == s; (c.Sum(turned) == sum) != same || c.Right(turned, sum) != same {
					t.Fatalf("%q, its byte %d as %02x: %08x, that of the text %08x", s, at, other, c.Sum(turned), sum)
				}
			}
		}
	}
}

func TestAnotherByteOfALongText(t *testing.T) { // P2.3
	c := New()
	s := mixed(1 << 16)
	sum := c.Sum(s)
	for _, at := range []int{0, 1, 1 << 8, 1 << 15, 1<<16 - 2, 1<<16 - 1} {
		for bit := range 8 {
			b := []byte(s)
			b[at] ^= 1 << bit
			if c.Right(string(b), sum) {
				t.Errorf("bit %d of byte %d turned: the same sum", bit, at)
			}
		}
	}
}
