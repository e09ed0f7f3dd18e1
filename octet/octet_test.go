package octet

import (
	"fmt"
	"math"
	"math/big"
	"strings"
	"testing"
)

// worded is n as bytes, by the library's numbers, as the chapter's words tell it.
func worded(n uint64) string {
	b := new(big.Int).SetUint64(n).Bytes()
	return string([]byte{byte(len(b))}) + string(b)
}

// mixed is a text of n bytes of all kinds, the same in every run.
func mixed(n int) string {
	b := make([]byte, n)
	x := uint64(88172645463325252)
	for i := range b {
		x ^= x << 13
		x ^= x >> 7
		x ^= x << 17
		b[i] = byte(x >> 24)
	}
	return string(b)
}

// edges are the numbers where one byte more is needed, and their neighbours.
func edges() []uint64 {
	l := []uint64{0, 1, 2, 300, 1<<20 - 1, 1 << 31, 0x0102030405060708, 0x8000000000000000, 0x00ff00ff00ff00ff, 0xff00ff00ff00ff00}
	for size := range 9 {
		if size < 8 {
			first := uint64(1) << (8 * size)
			l = append(l, first-1, first, first+1, first*0x7f, first*0x80, first*0xff)
		}
	}
	return append(l, math.MaxInt64-1, math.MaxInt64, math.MaxInt64+1, math.MaxUint64-1, math.MaxUint64)
}

func texts() []string {
	l := []string{"", "a", "ab", "hi", "\x00", "\x00\x00", "a\x00b", "é", "\xff\xfe\xfd", "\x01\x02ab", strings.Repeat("\x00", 300)}
	for b := range 256 {
		l = append(l, string([]byte{byte(b)}))
	}
	for _, n := range []int{3, 43, 64, 127, 128, 255, 256, 257, 65535, 65536, 70000} {
		l = append(l, mixed(n))
	}
	return l
}

func hex(s string) string {
	if len(s) > 40 {
		return fmt.Sprintf("%x.. (%d bytes)", s[:40], len(s))
	}
	return fmt.Sprintf("%x", s)
}

func same(t *testing.T, what, got, want string) {
	t.Helper()
	if got != want {
		t.Errorf("%s: %s, want %s", what, hex(got), hex(want))
	}
}

// stands holds the reader's answers about itself against what is wanted.
func stands(t *testing.T, what string, r *Reader, good, end bool, left int) {
	t.Helper()
	if r.Good() != good || r.End() != end || r.Left() != left {
		t.Errorf("%s: Good %v, End %v, Left %d, want %v, %v, %d", what, r.Good(), r.End(), r.Left(), good, end, left)
	}
}

// isBad asks the reader for all it could tell, more than once.
func isBad(t *testing.T, what string, r *Reader) {
	t.Helper()
	for range 2 {
		stands(t, what, r, false, false, 0)
		if n := r.Num(math.MaxUint64); n != 0 {
			t.Errorf("%s: Num of a bad one: %d", what, n)
		}
		if n := r.Int(math.MaxInt); n != 0 {
			t.Errorf("%s: Int of a bad one: %d", what, n)
		}
		if s := r.Text(math.MaxInt); s != "" {
			t.Errorf("%s: Text of a bad one: %s", what, hex(s))
		}
		if r.Flag() {
			t.Errorf("%s: Flag of a bad one: yes", what)
		}
		if n := r.Num(0); n != 0 {
			t.Errorf("%s: Num(0) of a bad one: %d", what, n)
		}
		if n := r.Int(-1); n != 0 {
			t.Errorf("%s: Int(-1) of a bad one: %d", what, n)
		}
		if s := r.Text(-1); s != "" {
			t.Errorf("%s: Text(-1) of a bad one: %s", what, hex(s))
		}
	}
}

// ask is one of the ways to ask a reader; tells is its answer as a text.
type ask struct {
	name  string
	tells func(r *Reader) string
}

func num(most uint64) ask {
	return ask{fmt.Sprintf("Num(%d)", most), func(r *Reader) string { return fmt.Sprint(r.Num(most)) }}
}

func integer(most int) ask {
	return ask{fmt.Sprintf("Int(%d)", most), func(r *Reader) string { return fmt.Sprint(r.Int(most)) }}
}

func text(most int) ask {
	return ask{fmt.Sprintf("Text(%d)", most), func(r *Reader) string { return fmt.Sprintf("%q", r.Text(most)) }}
}

func flag() ask {
	return ask{"Flag()", func(r *Reader) string { return fmt.Sprint(r.Flag()) }}
}

func TestNumIsItsLengthAndItsBytes(t *testing.T) { // P3.1
	for _, n := range edges() {
		w := &Writer{}
		w.Num(n)
		same(t, fmt.Sprintf("Num(%d)", n), w.String(), worded(n))
	}
}

func TestNumAtEachLength(t *testing.T) { // P3.1
	cases := []struct {
		n    uint64
		want string
	}{
		{0, "\x00"},
		{1, "\x01\x01"},
		{0xff, "\x01\xff"},
		{0x100, "\x02\x01\x00"},
		{0xffff, "\x02\xff\xff"},
		{0x10000, "\x03\x01\x00\x00"},
		{0xffffff, "\x03\xff\xff\xff"},
		{0x1000000, "\x04\x01\x00\x00\x00"},
		{0xffffffff, "\x04\xff\xff\xff\xff"},
		{0x100000000, "\x05\x01\x00\x00\x00\x00"},
		{0xffffffffff, "\x05\xff\xff\xff\xff\xff"},
		{0x10000000000, "\x06\x01\x00\x00\x00\x00\x00"},
		{0xffffffffffff, "\x06\xff\xff\xff\xff\xff\xff"},
		{0x1000000000000, "\x07\x01\x00\x00\x00\x00\x00\x00"},
		{0xffffffffffffff, "\x07\xff\xff\xff\xff\xff\xff\xff"},
		{0x100000000000000, "\x08\x01\x00\x00\x00\x00\x00\x00\x00"},
		{math.MaxUint64, "\x08\xff\xff\xff\xff\xff\xff\xff\xff"},
	}
	for _, c := range cases {
		same(t, fmt.Sprintf("Num(%d)", c.n), new(Writer).Num(c.n).String(), c.want)
	}
}

func TestTheExamples(t *testing.T) { // P3.1, the chapter's examples
	same(t, "300", new(Writer).Num(300).String(), "\x02\x01\x2c")
	same(t, "the text ab", new(Writer).Text("ab").String(), "\x01\x02\x61\x62")
	r := Read("\x02\x01\x2c\x01\x02\x61\x62")
	if n := r.Num(300); n != 300 {
		t.Errorf("02 01 2c: %d", n)
	}
	stands(t, "behind 300", r, true, false, 4)
	if s := r.Text(2); s != "ab" {
		t.Errorf("01 02 61 62: %q", s)
	}
	stands(t, "behind ab", r, true, true, 0)
}

func TestIntIsNumOrThatOf0(t *testing.T) { // P3.1
	for _, n := range []int{0, 1, 255, 256, 300, 65535, 65536, 1 << 31, math.MaxInt - 1, math.MaxInt} {
		same(t, fmt.Sprintf("Int(%d)", n), new(Writer).Int(n).String(), worded(uint64(n)))
	}
	for _, n := range []int{-1, -2, -5, -255, -256, -300, math.MinInt + 1, math.MinInt} {
		same(t, fmt.Sprintf("Int(%d)", n), new(Writer).Int(n).String(), "\x00")
	}
}

func TestTextIsItsLengthAndItsBytes(t *testing.T) { // P3.1, R5
	for _, s := range texts() {
		same(t, "Text", new(Writer).Text(s).String(), worded(uint64(len(s)))+s)
	}
	same(t, "the empty one", new(Writer).Text("").String(), "\x00")
}

func TestFlagIsTheNumber1Or0(t *testing.T) { // P3.1
	same(t, "yes", new(Writer).Flag(true).String(), "\x01\x01")
	same(t, "no", new(Writer).Flag(false).String(), "\x00")
}

func TestEachIsPutBehindAllThatWasPut(t *testing.T) { // P3.1
	w, want := &Writer{}, ""
	put := func(what, bytes string, told *Writer) {
		t.Helper()
		if told != w {
			t.Errorf("%s: does not tell its writer", what)
		}
		want += bytes
		same(t, what, w.String(), want)
	}
	for range 3 {
		put("Num", "\x02\x01\x2c", w.Num(300))
		put("Int", "\x01\x07", w.Int(7))
		put("Int below 0", "\x00", w.Int(-7))
		put("Text", "\x01\x02ab", w.Text("ab"))
		put("Text of nothing", "\x00", w.Text(""))
		put("Flag", "\x01\x01", w.Flag(true))
		put("Flag", "\x00", w.Flag(false))
	}
}

func TestAZeroWriterHasNone(t *testing.T) { // P3.1
	var w Writer
	same(t, "a zero writer", w.String(), "")
	same(t, "a new one", new(Writer).String(), "")
	same(t, "put into", w.Num(1).String(), "\x01\x01")
}

func TestStringTakesNothingAway(t *testing.T) { // P3.1, R3, R4
	w := new(Writer).Text("ab")
	first := w.String()
	same(t, "asked again", w.String(), first)
	w.Num(300).Text(strings.Repeat("x", 100))
	same(t, "what was told stays", first, "\x01\x02ab")
	same(t, "a writer's own text", new(Writer).Text("ab").Text(first).String(), "\x01\x02ab\x01\x04\x01\x02ab")
	same(t, "its own bytes put into it", w.Text(w.String()).String(), twice(first+"\x02\x01\x2c\x01\x64"+strings.Repeat("x", 100)))
}

// twice is s, and s behind it as a text.
func twice(s string) string {
	return s + worded(uint64(len(s))) + s
}

func TestWritersStandByThemselves(t *testing.T) { // R4
	a, b := new(Writer).Num(1), new(Writer).Num(2)
	a.Text("a")
	b.Text("b")
	same(t, "a", a.String(), "\x01\x01\x01\x01a")
	same(t, "b", b.String(), "\x01\x02\x01\x01b")
}

func TestACopiedWriterGoesOnByItself(t *testing.T) { // P1: no call panics, of a copied writer neither
	w := new(Writer).Num(1)
	c := *w
	w.Num(2)
	same(t, "a copy", c.String(), "\x01\x01")
	c.Num(3).Text("c").Flag(true).Int(4)
	w.Num(5)
	same(t, "the writer", w.String(), "\x01\x01\x01\x02\x01\x05")
	same(t, "its copy", c.String(), "\x01\x01\x01\x03\x01\x01c\x01\x01\x01\x04")
	d := c
	same(t, "a copy of the copy", d.Flag(false).String(), c.String()+"\x00")
	var zero Writer
	z := zero
	same(t, "a copy of a zero one", z.Flag(true).String(), "\x01\x01")
	same(t, "the zero one", zero.String(), "")
}

func TestWritingIsPromotedFromTheBuilder(t *testing.T) { // the chapter's ways
	w := &Writer{}
	w.WriteByte(1)
	w.WriteString("\x07")
	w.Num(300)
	c := *w
	same(t, "a writer", w.String(), "\x01\x07\x02\x01\x2c")
	same(t, "its copy", c.Flag(true).String(), "\x01\x07\x02\x01\x2c\x01\x01")
}

func TestANilWriterIsNilAndNothing(t *testing.T) { // the sentence behind the promises, P1
	var w *Writer
	for range 2 {
		if w.Num(300) != nil || w.Int(7) != nil || w.Int(-7) != nil || w.Text("ab") != nil || w.Text("") != nil || w.Flag(true) != nil || w.Flag(false) != nil {
			t.Error("a nil writer tells one")
		}
		same(t, "a nil writer", w.String(), "")
	}
	same(t, "a row of calls", w.Num(1).Text("a").Flag(true).Int(2).String(), "")
}

func TestReadIsAtTheBeginning(t *testing.T) { // P3.2
	for _, s := range texts() {
		stands(t, hex(s), Read(s), true, s == "", len(s))
	}
}

func TestNumReadsWhatStandsNext(t *testing.T) { // P3.2, P3.3
	for _, n := range edges() {
		bytes := worded(n)
		for _, behind := range []string{"", "\x00", "\x01", "\xff\xff", "\x00\x00\x00\x00\x00\x00\x00\x00"} {
			r := Read(bytes + behind)
			if got := r.Num(math.MaxUint64); got != n {
				t.Errorf("%x: %d, want %d", bytes, got, n)
			}
			stands(t, hex(bytes+behind), r, true, behind == "", len(behind))
		}
	}
}

func TestNumIsNotAboveMost(t *testing.T) { // P3.2
	for _, n := range edges() {
		for _, most := range append(edges(), n-1, n, n+1) {
			r := Read(worded(n) + "\x01\x01")
			got := r.Num(most)
			what := fmt.Sprintf("Num(%d) at %d", most, n)
			if n > most {
				if got != 0 {
					t.Errorf("%s: %d", what, got)
				}
				isBad(t, what, r)
				continue
			}
			if got != n {
				t.Errorf("%s: %d", what, got)
			}
			stands(t, what, r, true, false, 2)
		}
	}
}

func TestIntIsNotAboveMost(t *testing.T) { // P3.2
	ints := []int{0, 1, 2, 255, 256, 257, 300, 65535, 65536, 1 << 31, math.MaxInt - 1, math.MaxInt}
	for _, n := range ints {
		for _, most := range ints {
			r := Read(worded(uint64(n)) + "\x00")
			got := r.Int(most)
			what := fmt.Sprintf("Int(%d) at %d", most, n)
			if n > most {
				if got != 0 {
					t.Errorf("%s: %d", what, got)
				}
				isBad(t, what, r)
				continue
			}
			if got != n {
				t.Errorf("%s: %d", what, got)
			}
			stands(t, what, r, true, false, 1)
		}
	}
	for _, n := range []uint64{math.MaxInt64 + 1, math.MaxUint64} {
		r := Read(worded(n))
		if got := r.Int(math.MaxInt); got != 0 {
			t.Errorf("Int at %d: %d", n, got)
		}
		isBad(t, fmt.Sprintf("Int at %d", n), r)
	}
}

func TestTextIsNotLongerThanMost(t *testing.T) { // P3.2, P3.3
	for _, s := range texts() {
		for _, most := range []int{0, 1, 2, len(s) - 1, len(s), len(s) + 1, math.MaxInt} {
			r := Read(worded(uint64(len(s))) + s + "\x01")
			got := r.Text(most)
			what := fmt.Sprintf("Text(%d) at %s", most, hex(s))
			if len(s) > most {
				if got != "" {
					t.Errorf("%s: %s", what, hex(got))
				}
				isBad(t, what, r)
				continue
			}
			same(t, what, got, s)
			stands(t, what, r, true, false, 1)
		}
	}
}

func TestFlagReads1Or0(t *testing.T) { // P3.2
	r := Read("\x01\x01\x00\x01\x01")
	for i, want := range []bool{true, false, true} {
		if got := r.Flag(); got != want {
			t.Errorf("flag %d: %v", i, got)
		}
		stands(t, "flag", r, true, i == 2, []int{3, 2, 0}[i])
	}
	for _, n := range edges() {
		if n < 2 {
			continue
		}
		r := Read(worded(n) + "\x01\x01")
		if r.Flag() {
			t.Errorf("Flag at %d: yes", n)
		}
		isBad(t, fmt.Sprintf("Flag at %d", n), r)
	}
}

// zeroOf is what an ask tells when there is nothing.
func zeroOf(a ask) string {
	return a.tells(nil)
}

func anyOf(most int) []ask {
	return []ask{num(uint64(most)), integer(most), text(most), flag()}
}

func TestTooFewBytesAreBad(t *testing.T) { // P3.2
	for _, n := range edges() {
		bytes := worded(n)
		for cut := range len(bytes) {
			for _, a := range anyOf(math.MaxInt) {
				r := Read(bytes[:cut])
				what := fmt.Sprintf("%s at %x", a.name, bytes[:cut])
				if got := a.tells(r); got != zeroOf(a) {
					t.Errorf("%s: %s", what, got)
				}
				isBad(t, what, r)
			}
		}
	}
}

func TestATextLongerThanWhatIsLeftIsBad(t *testing.T) { // P3.2
	for _, s := range []string{"a", "ab", "\x00\x00\x00", mixed(300)} {
		bytes := new(Writer).Text(s).String()
		for cut := range len(bytes) {
			r := Read(bytes[:cut])
			if got := r.Text(math.MaxInt); got != "" {
				t.Errorf("%d of %d bytes: %s", cut, len(bytes), hex(got))
			}
			isBad(t, fmt.Sprintf("%d of %d bytes", cut, len(bytes)), r)
		}
	}
	for _, size := range []uint64{4, 1 << 31, 1 << 32, math.MaxInt64, math.MaxInt64 + 1, math.MaxUint64} {
		r := Read(worded(size) + "abc")
		if got := r.Text(math.MaxInt); got != "" {
			t.Errorf("a length of %d: %s", size, hex(got))
		}
		isBad(t, fmt.Sprintf("a length of %d", size), r)
	}
}

func TestMoreBytesThanNeededAreBad(t *testing.T) { // P3.2
	for size := 1; size <= 8; size++ {
		for _, rest := range []string{strings.Repeat("\x00", size-1), strings.Repeat("\xff", size-1), mixed(size - 1)} {
			bytes := string([]byte{byte(size)}) + "\x00" + rest
			for _, a := range []ask{num(math.MaxUint64), integer(math.MaxInt), text(math.MaxInt), flag()} {
				r := Read(bytes + strings.Repeat("\x01", 300))
				what := fmt.Sprintf("%s at %x", a.name, bytes)
				if got := a.tells(r); got != zeroOf(a) {
					t.Errorf("%s: %s", what, got)
				}
				isBad(t, what, r)
			}
		}
	}
}

func TestALengthAbove8IsBad(t *testing.T) { // P3.2
	for size := 9; size < 256; size++ {
		for _, first := range []string{"\x00", "\x01", "\xff"} {
			for _, a := range anyOf(math.MaxInt) {
				r := Read(string([]byte{byte(size)}) + strings.Repeat(first, 300))
				what := fmt.Sprintf("%s at a length of %d", a.name, size)
				if got := a.tells(r); got != zeroOf(a) {
					t.Errorf("%s: %s", what, got)
				}
				isBad(t, what, r)
			}
		}
	}
}

func TestAMostBelow0IsBad(t *testing.T) { // P3.2
	for _, most := range []int{-1, -2, -256, math.MinInt} {
		for _, s := range []string{"", "\x00", "\x00\x00", "\x01\x01", "\x01\x02ab", "\x09"} {
			for _, a := range []ask{integer(most), text(most)} {
				r := Read(s)
				what := fmt.Sprintf("%s at %x", a.name, s)
				if got := a.tells(r); got != zeroOf(a) {
					t.Errorf("%s: %s", what, got)
				}
				isBad(t, what, r)
			}
		}
	}
}

func TestAReaderIsBadFromThenOn(t *testing.T) { // P3.2
	good := "\x01\x01\x01\x02ab\x01\x01"
	asks := []ask{num(0), integer(0), text(0), integer(-1), text(-1)}
	for _, a := range asks {
		r := Read("\x01\x07" + good + good)
		if n := r.Num(7); n != 7 {
			t.Errorf("Num: %d", n)
		}
		stands(t, "ahead of it", r, true, false, 16)
		if got := a.tells(r); got != zeroOf(a) {
			t.Errorf("%s: %s", a.name, got)
		}
		isBad(t, a.name, r)
	}
	r := Read("\x02\x00\x07\x01\x05")
	if n := r.Num(9); n != 0 {
		t.Errorf("02 00 07: %d", n)
	}
	isBad(t, "02 00 07", r)
}

func TestNothingIsReadBehindTheEnd(t *testing.T) { // P3.2
	for _, a := range anyOf(0) {
		r := Read("\x00")
		if n := r.Num(0); n != 0 {
			t.Errorf("Num: %d", n)
		}
		stands(t, "at its end", r, true, true, 0)
		if got := a.tells(r); got != zeroOf(a) {
			t.Errorf("%s at the end: %s", a.name, got)
		}
		isBad(t, a.name+" at the end", r)
	}
}

func TestGoodEndAndLeftChangeNothing(t *testing.T) { // P3.2, R4
	r := Read("\x01\x02ab")
	for range 3 {
		stands(t, "at its beginning", r, true, false, 4)
	}
	same(t, "Text", r.Text(2), "ab")
}

func TestANilReaderIsAsABadOne(t *testing.T) { // the sentence behind the promises, P1
	var r *Reader
	isBad(t, "a nil reader", r)
}

func TestReadersStandByThemselves(t *testing.T) { // R4
	s := "\x01\x01\x01\x02"
	a, b := Read(s), Read(s)
	if a.Num(9) != 1 || b.Num(0) != 0 || a.Num(9) != 2 {
		t.Error("readers of one text disturb each other")
	}
	stands(t, "a", a, true, true, 0)
	isBad(t, "b", b)
	again := Read(s)
	if again.Num(9) != 1 || again.Num(9) != 2 || !again.End() {
		t.Error("the same calls have other answers")
	}
}

func TestWhatWasWrittenIsReadInItsOrder(t *testing.T) { // P3.3
	w := &Writer{}
	for _, n := range edges() {
		w.Num(n)
		w.Int(int(n))
		w.Flag(n%2 == 1)
	}
	for _, s := range texts() {
		w.Text(s).Flag(s == "")
	}
	r := Read(w.String())
	for _, n := range edges() {
		if got := r.Num(n); got != n {
			t.Errorf("Num: %d, want %d", got, n)
		}
		if got, want := r.Int(math.MaxInt), max(int(n), 0); got != want {
			t.Errorf("Int: %d, want %d", got, want)
		}
		if got := r.Flag(); got != (n%2 == 1) {
			t.Errorf("Flag behind %d: %v", n, got)
		}
	}
	for _, s := range texts() {
		same(t, "Text", r.Text(len(s)), s)
		if got := r.Flag(); got != (s == "") {
			t.Errorf("Flag behind %s: %v", hex(s), got)
		}
	}
	stands(t, "behind all", r, true, true, 0)
}

// TestWhatIsReadIsWrittenSo reads short texts of every kind: whatever is read as good has just the bytes that a writer writes.
func TestWhatIsReadIsWrittenSo(t *testing.T) { // P3.3, P1
	for a := range 256 {
		for b := range 256 {
			for _, more := range []string{"", "\x00", "\x01\x02\x03", "\x00\x00\x00\x00\x00\x00\x00\x00", "abcdefghijklm"} {
				s := string([]byte{byte(a), byte(b)}) + more
				writtenSo(t, s, Read(s), func(r *Reader) *Writer { return new(Writer).Num(r.Num(math.MaxUint64)) })
				writtenSo(t, s, Read(s), func(r *Reader) *Writer { return new(Writer).Int(r.Int(math.MaxInt)) })
				writtenSo(t, s, Read(s), func(r *Reader) *Writer { return new(Writer).Text(r.Text(math.MaxInt)) })
				writtenSo(t, s, Read(s), func(r *Reader) *Writer { return new(Writer).Flag(r.Flag()) })
			}
		}
	}
}

func writtenSo(t *testing.T, s string, r *Reader, again func(r *Reader) *Writer) {
	t.Helper()
	w := again(r)
	if !r.Good() {
		same(t, "a bad one's", w.String(), "\x00")
		return
	}
	same(t, fmt.Sprintf("read from %x", s), w.String(), s[:len(s)-r.Left()])
}

func TestALongTextThereAndBack(t *testing.T) { // R5
	s := mixed(1 << 22)
	w := new(Writer).Text(s).Num(7)
	r := Read(w.String())
	same(t, "a long text", r.Text(1<<22), s)
	if n := r.Num(7); n != 7 || !r.End() {
		t.Errorf("behind it: %d, End %v", n, r.End())
	}
	if got := Read(w.String()).Text(1<<22 - 1); got != "" {
		t.Errorf("one byte too long: %s", hex(got))
	}
}

func TestALongRowThereAndBack(t *testing.T) { // R5
	const many = 1 << 20
	w := &Writer{}
	for i := range many {
		w.Int(i)
	}
	r := Read(w.String())
	for i := range many {
		if got := r.Int(many); got != i {
			t.Fatalf("number %d of a long row: %d", i, got)
		}
	}
	stands(t, "behind all", r, true, true, 0)
}
