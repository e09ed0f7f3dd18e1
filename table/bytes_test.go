package table

import (
	"fmt"
	"math"
	"strings"
	"testing"

	"horarium/api"
	"horarium/samples"
)

// numbers are all that t says, in the order in which they are put.
func numbers(t api.Table) []uint64 {
	l := []uint64{uint64(t.Mode), uint64(len(t.Rows))}
	for _, r := range t.Rows {
		t, server := r.Task, uint64(0)
		if r.Server {
			server = 1
		}
		l = append(l, uint64(t.ID), uint64(t.C), uint64(t.D), uint64(t.T), uint64(t.Modes), server)
	}
	return l
}

// said is the table that says these numbers; false if none that may be does.
func said(l []uint64) (api.Table, bool) {
	for _, n := range l {
		if n > 1<<31 {
			return api.Table{}, false
		}
	}
	if len(l) < 2 || l[1] > 16 || len(l) != 2+6*int(l[1]) {
		return api.Table{}, false
	}
	t := api.Table{Mode: int(l[0])}
	for l = l[2:]; len(l) > 0; l = l[6:] {
		if l[5] > 1 {
			return api.Table{}, false
		}
		t.Rows = append(t.Rows, api.Row{Task: api.Task{ID: int(l[0]), C: int64(l[1]), D: int64(l[2]), T: int64(l[3]), Modes: int(l[4])}, Server: l[5] == 1})
	}
	if !isTable(t) {
		return api.Table{}, false
	}
	return t, true
}

func hex(s string) string {
	if len(s) > 400 {
		return fmt.Sprintf("% x.. (%d bytes)", s[:400], len(s))
	}
	return fmt.Sprintf("% x", s)
}

// writes looks at what Bytes tells of a table that may be, and at what Read tells of these bytes.
func writes(t *testing.T, x api.Table, want string) {
	t.Helper()
	if got, err := Bytes(x); got != want || err != api.OK {
		t.Errorf("Bytes(%v): %s, error %d, want %s", x, hex(got), err, hex(want))
	}
	if got, err := Read(want); !equal(got, x) || err != api.OK {
		t.Errorf("Read(%s): %v, error %d, want %v", hex(want), got, err, x)
	}
}

// refuses looks at what Bytes tells of a table that may not be.
func refuses(t *testing.T, x api.Table) {
	t.Helper()
	if got, err := Bytes(x); got != "" || err != api.ErrArg {
		t.Errorf("Bytes(%v): %s, error %d, want nothing, 1", x, hex(got), err)
	}
}

// isNone looks at what Read tells of bytes that no table has.
func isNone(t *testing.T, s string) {
	t.Helper()
	if x, err := Read(s); len(x.Rows) != 0 || x.Mode != 0 || err != api.ErrForm {
		t.Errorf("Read(%s): %v, error %d, want nothing, 10", hex(s), x, err)
	}
}

// isRead holds what Read tells against what its numbers say, and tells whether there is such a table.
func isRead(t *testing.T, s string) bool {
	t.Helper()
	var want api.Table
	l, is := samples.Parted(s)
	if is {
		want, is = said(l)
	}
	if !is {
		isNone(t, s)
		return false
	}
	writes(t, want, s)
	return true
}

func TestTheChaptersExample(t *testing.T) { // P14.3
	writes(t, api.Table{Mode: 2}, "\x01\x02\x00")
}

func TestBytesOfSmallNumbers(t *testing.T) { // P14.3
	writes(t, api.Table{}, "\x00\x00")
	writes(t, api.Table{Rows: []api.Row{}, Mode: 3}, "\x01\x03\x00")
	one := api.Table{Rows: []api.Row{{Task: api.Task{ID: 0, C: 1, D: 2, T: 3, Modes: 4}}}}
	writes(t, one, "\x00"+"\x01\x01"+"\x00"+"\x01\x01"+"\x01\x02"+"\x01\x03"+"\x01\x04"+"\x00")
	two := api.Table{Rows: []api.Row{{Task: api.Task{ID: 7, C: 2, D: 9, T: 9, Modes: 15}, Server: true}, {Task: api.Task{ID: 300, C: 3, D: 256, T: 65536, Modes: 8}}}, Mode: 1}
	writes(t, two, "\x01\x01"+"\x01\x02"+
		"\x01\x07"+"\x01\x02"+"\x01\x09"+"\x01\x09"+"\x01\x0f"+"\x01\x01"+
		"\x02\x01\x2c"+"\x01\x03"+"\x02\x01\x00"+"\x03\x01\x00\x00"+"\x01\x08"+"\x00")
}

func TestBytesOfTheGreatestNumbers(t *testing.T) { // P14.3
	const most = "\x04\x80\x00\x00\x00"
	x := api.Table{Mode: 3}
	want := "\x01\x03" + "\x01\x10"
	for id := 1008; id < 1024; id++ {
		x.Rows = append(x.Rows, api.Row{Task: api.Task{ID: id, C: 1 << 31, D: 1 << 31, T: 1 << 31, Modes: 15}, Server: true})
		want += "\x02\x03" + string([]byte{byte(id - 768)}) + most + most + most + "\x01\x0f" + "\x01\x01"
	}
	writes(t, x, want)
	if len(want) != 356 {
		t.Errorf("%d bytes, want 356", len(want))
	}
}

func TestBytesOfTablesThatMayNotBe(t *testing.T) { // P14.3, R2
	for _, x := range wrong() {
		refuses(t, x)
	}
}

func TestWhatWasWrittenIsRead(t *testing.T) { // P14.3, P14.4
	for _, x := range good() {
		writes(t, x, samples.Worded(numbers(x)...))
	}
	draw := samples.Drawing(4)
	for range 20000 {
		x := drawn(draw, int(draw(17)), []int64{20, 300, 1024}[draw(3)])
		writes(t, x, samples.Worded(numbers(x)...))
	}
}

func TestWhatWasReadIsTheCallersOwn(t *testing.T) { // R3, P14.3
	for _, x := range good() {
		s := samples.Worded(numbers(x)...)
		told, _ := Read(s)
		again, _ := Read(s)
		spoil(told.Rows)
		if !equal(again, x) {
			t.Errorf("Read(%s): what was told twice shares rows", hex(s))
		}
	}
}

func TestReadOfNothing(t *testing.T) { // P14.3, R1
	isNone(t, "")
}

func TestReadOfBytesThatAreCutOrGoOn(t *testing.T) { // P14.3
	for _, x := range good() {
		s := samples.Worded(numbers(x)...)
		for at := range len(s) {
			isNone(t, s[:at])
			isRead(t, s[at:])
			isRead(t, s[:at]+s[at+1:])
		}
		for b := range 256 {
			isNone(t, s+string([]byte{byte(b)}))
			isRead(t, string([]byte{byte(b)})+s)
		}
		isNone(t, s+s)
	}
}

func TestReadOfBytesOfWhichOneIsTurned(t *testing.T) { // P14.3
	is := 0
	for _, x := range []api.Table{of(2), of(0, 0), of(3, 7), of(1, 5, 300), rising(3), of(2, 0, 1, 2, 1023), rising(16)} {
		for s := range samples.Turned(samples.Worded(numbers(x)...)) {
			if isRead(t, s) {
				is++
			}
		}
	}
	if is < 1000 {
		t.Errorf("only %d of the turned ones are a table's: too few", is)
	}
}

func TestReadOfHowManyRows(t *testing.T) { // P14.3
	for n := range 40 {
		l := numbers(rising(n))
		if is := isRead(t, samples.Worded(l...)); is != (n <= 16) {
			t.Errorf("%d rows are read: %v", n, is)
		}
		for _, m := range []uint64{0, 1, 15, 16, 17, 18, 127, 128, 255, 256, 257, 1 << 16, 1 << 31, 1 << 32, 1<<32 + 16, 1 << 63, 1<<63 + 1, math.MaxUint64} {
			l[1] = m
			if is := isRead(t, samples.Worded(l...)); is != (int(m) == n && n <= 16) {
				t.Errorf("%d rows that are said to be %d are read: %v", n, m, is)
			}
		}
	}
}

func TestReadOfIDsThatDoNotRise(t *testing.T) { // P14.3
	for _, ids := range [][]int{{5, 5}, {6, 5}, {1, 2, 2}, {1, 3, 2}, {2, 1, 3}, {1, 1, 2}, {3, 2, 1}, {1023, 0}, {0, 0}, {1, 2, 1}} {
		isNone(t, samples.Worded(numbers(of(1, ids...))...))
	}
	for n := 2; n <= 16; n++ {
		for at := 1; at < n; at++ {
			ahead := rising(n).Rows[at-1].Task.ID
			for _, id := range []int{0, ahead - 1, ahead} {
				isNone(t, samples.Worded(numbers(altered(rising(n), at, func(r *api.Row) { r.Task.ID = id }))...))
			}
		}
	}
}

func TestReadOfNumbersOutOfTheirBounds(t *testing.T) { // P14.3
	is, none := 0, 0
	for _, x := range good() {
		for _, s := range samples.Replaced(numbers(x)) {
			if isRead(t, s) {
				is++
			} else {
				none++
			}
		}
	}
	if is < 1000 || none < 1000 {
		t.Errorf("%d are a table's, %d are none's: too few of one kind", is, none)
	}
	writes(t, of(1), samples.Worded(1, 0))
	isNone(t, samples.Worded(4, 0))
	isNone(t, samples.Worded(0, 1, 1024, 1, 4, 5, 3, 0))
	isNone(t, samples.Worded(0, 1, 300, 0, 4, 5, 3, 0))
	isNone(t, samples.Worded(0, 1, 300, 5, 4, 5, 3, 0))
	isNone(t, samples.Worded(0, 1, 300, 1, 6, 5, 3, 0))
	isNone(t, samples.Worded(0, 1, 300, 1, 4, 1<<31+1, 3, 0))
	isNone(t, samples.Worded(0, 1, 300, 1, 4, 5, 0, 0))
	isNone(t, samples.Worded(0, 1, 300, 1, 4, 5, 16, 0))
	isNone(t, samples.Worded(0, 1, 300, 1, 4, 5, 3, 1)) // a server whose D is not its T
}

func TestReadOfNumbersOfMoreBytesThanTheyNeed(t *testing.T) { // P14.3
	for _, x := range good() {
		for _, s := range samples.Padded(numbers(x)) {
			isNone(t, s)
		}
	}
}

func TestReadOfFlagsThatAreNeither(t *testing.T) { // P14.3
	for _, ids := range [][]int{{6}, {6, 9}, {1, 6, 9}} {
		x := of(2, ids...)
		l := numbers(x)
		for _, at := range []int{7, len(l) - 1} {
			for _, flag := range samples.NoFlags() {
				isNone(t, samples.Worded(l[:at]...)+flag+samples.Worded(l[at+1:]...))
			}
		}
	}
	x := of(2, 6) // a server
	s := samples.Worded(numbers(x)[:7]...)
	writes(t, x, s+"\x01\x01")
	writes(t, altered(x, 0, func(r *api.Row) { r.Server = false }), s+"\x00")
}

func TestReadOfLongTexts(t *testing.T) { // P14.3, R5
	for _, n := range []int{356, 357, 1 << 10, 1 << 20} {
		for b := range 10 {
			isNone(t, strings.Repeat(string([]byte{byte(b)}), n))
		}
		isNone(t, strings.Repeat("\xff", n))
		isNone(t, strings.Repeat("\x01\x02\x00", n))
		isNone(t, "\x01\x02\x00"+strings.Repeat("\x00", n))
		isNone(t, "\x01\x02\x01\x10"+strings.Repeat("\x01\x01", n))
	}
}

func TestReadOfAllShortTextsOfSomeBytes(t *testing.T) { // P14.3
	is := 0
	for _, s := range samples.Short(5, 0, 1, 2, 3, 4, 6, 8, 9, 16, 255) {
		if isRead(t, s) {
			is++
		}
	}
	// One of each mode, without rows: a row needs 10 bytes at the least.
	if is != 4 {
		t.Errorf("%d of the texts are a table's, want 4", is)
	}
}

func TestReadOfAllRowsOfSomeNumbers(t *testing.T) { // P14.3
	is := 0
	for _, mode := range []uint64{0, 3, 4} {
		for n := range uint64(3) {
			for _, id := range []uint64{0, 1, 1023, 1024} {
				for _, modes := range []uint64{0, 1, 15, 16} {
					for k := range uint64(4 * 4 * 4 * 3) {
						c, d, p, flag := k%4, k/4%4, k/16%4, k/64
						if isRead(t, samples.Worded(mode, n, id, c, d, p, modes, flag)) {
							is++
						}
						isRead(t, samples.Worded(mode, n, 1, 1, 1, 1, 1, 1, id, c, d, p, modes, flag))
					}
				}
			}
		}
	}
	// Of 2 modes, 3 IDs and 2 Modes there are 10 tasks, of which 6 may be servers.
	if want := 2 * 3 * 2 * 16; is != want {
		t.Errorf("%d of the rows are a table's, want %d", is, want)
	}
}

func TestWhatReadTellsHasJustTheseBytes(t *testing.T) { // P14.3
	draw := samples.Drawing(7)
	pieces := []uint64{0, 1, 2, 3, 4, 5, 7, 15, 16, 255, 256, 1023, 1024, 1<<31 - 1, 1 << 31, 1<<31 + 1, 1 << 40, math.MaxUint64}
	is := map[bool]int{}
	for range 200000 {
		l := numbers(drawn(draw, int(draw(4)), []int64{5, 1024}[draw(2)]))
		for range draw(3) {
			l[draw(int64(len(l)))] = pieces[draw(int64(len(pieces)))]
		}
		s := []byte(samples.Worded(l...))
		if draw(3) == 0 {
			s[draw(int64(len(s)))] = byte(draw(256))
		}
		if draw(5) == 0 {
			s = s[draw(int64(len(s))):]
		}
		x, err := Read(string(s))
		if bytes, _ := Bytes(x); err == api.OK && bytes != string(s) {
			t.Errorf("Read(%s): %v, whose bytes are %s", hex(string(s)), x, hex(bytes))
		}
		is[isRead(t, string(s))]++
	}
	if is[true] < 10000 || is[false] < 10000 {
		t.Errorf("%v: too few of one kind", is)
	}
}
