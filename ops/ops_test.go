package ops

import (
	"fmt"
	"math"
	"slices"
	"strings"
	"testing"

	"horarium/api"
	"horarium/samples"
)

// early is a task that may be, with its deadline ahead of its period.
var early = api.Task{ID: 300, C: 1, D: 4, T: 5, Modes: 3}

// whole is a task that may be, with its deadline at its period.
var whole = api.Task{ID: 7, C: 2, D: 9, T: 9, Modes: 15}

// goodTasks are tasks that may be, of small numbers and of those at the bounds.
func goodTasks() []api.Task {
	l := []api.Task{early, whole}
	for _, id := range []int{0, 1, 255, 256, 1022, 1023} {
		for _, modes := range []int{1, 2, 14, 15} {
			for _, c := range []int64{1, 255, 256, 1<<31 - 1, 1 << 31} {
				for _, d := range []int64{1, 256, 65536, 1<<31 - 1, 1 << 31} {
					for _, p := range []int64{1, 256, 1 << 20, 1<<31 - 1, 1 << 31} {
						if c <= d && d <= p {
							l = append(l, api.Task{ID: id, C: c, D: d, T: p, Modes: modes})
						}
					}
				}
			}
		}
	}
	return l
}

// goodOps are ops that may be, of each kind, each of them once.
func goodOps() []api.Op {
	var l []api.Op
	for _, task := range goodTasks() {
		l = append(l, samples.Admits(task))
		if task.D == task.T {
			l = append(l, samples.Serves(task))
		}
	}
	for id := range 1024 {
		l = append(l, samples.Removes(id))
		for _, c := range []int64{1, 2, 255, 256, 1<<16 - 1, 1 << 16, 1 << 20, 1<<31 - 1, 1 << 31} {
			l = append(l, samples.Resizes(id, c))
		}
	}
	for m := range 4 {
		l = append(l, samples.TurnsTo(m))
	}
	return l
}

// drawnOps are n ops that may be, and look drawn by chance.
func drawnOps(n int) []api.Op {
	draw := samples.Drawing(13)
	greatest := []int64{3, 300, 1 << 20, 1 << 31}
	var l []api.Op
	for len(l) < n {
		switch draw(5) {
		case 0:
			l = append(l, samples.Removes(int(draw(1024))))
		case 1:
			l = append(l, samples.Resizes(int(draw(1024)), 1+draw(greatest[draw(4)])))
		case 2:
			l = append(l, samples.TurnsTo(int(draw(4))))
		default:
			for _, task := range samples.Drawn(draw, 1, 1, greatest[draw(4)]) {
				o := samples.Admits(task)
				o.Server = task.D == task.T && draw(2) == 0
				l = append(l, o)
			}
		}
	}
	return l
}

// wrongOps are ops that may not be, each for another reason; all of them are bare.
func wrongOps() []api.Op {
	l := []api.Op{
		samples.Removes(-1), samples.Removes(1024), samples.Removes(math.MinInt), samples.Removes(math.MaxInt),
		samples.Resizes(-1, 1), samples.Resizes(1024, 1), samples.Resizes(math.MinInt, 1), samples.Resizes(math.MaxInt, 1),
		samples.Resizes(0, 0), samples.Resizes(0, -1), samples.Resizes(1023, 1<<31+1), samples.Resizes(7, 1<<32), samples.Resizes(7, 1<<32+1), samples.Resizes(7, math.MinInt64), samples.Resizes(7, math.MaxInt64),
		samples.TurnsTo(-1), samples.TurnsTo(4), samples.TurnsTo(5), samples.TurnsTo(15), samples.TurnsTo(math.MinInt), samples.TurnsTo(math.MaxInt),
		samples.Serves(early), samples.Serves(api.Task{ID: 1, C: 1, D: 1, T: 2, Modes: 1}), samples.Serves(api.Task{ID: 1, C: 1, D: 1<<31 - 1, T: 1 << 31, Modes: 1}),
	}
	for _, task := range samples.Wrong() {
		l = append(l, samples.Admits(task), samples.Serves(task))
	}
	for _, kind := range noKinds() {
		l = append(l, api.Op{Kind: kind})
	}
	return l
}

func noKinds() []int {
	return []int{0, -1, 5, -2, -4, 6, 7, 255, 256, 257, 1<<32 + 1, math.MinInt, math.MinInt + 1, math.MaxInt - 1, math.MaxInt}
}

// fillings set one part of an op each, to something and to other things.
func fillings() []func(*api.Op) {
	l := []func(*api.Op){
		func(o *api.Op) { o.Task = early },
		func(o *api.Op) { o.Task = whole },
		func(o *api.Op) { o.Task.ID = 1 },
		func(o *api.Op) { o.Task.ID = -1 },
		func(o *api.Op) { o.Task.C = 1 },
		func(o *api.Op) { o.Task.D = 1 },
		func(o *api.Op) { o.Task.T = 1 },
		func(o *api.Op) { o.Task.Modes = 1 },
		func(o *api.Op) { o.Server = true },
	}
	for _, n := range []int{math.MinInt, -1, 1, 3, 1023, math.MaxInt} {
		l = append(l,
			func(o *api.Op) { o.ID = n },
			func(o *api.Op) { o.C = int64(n) },
			func(o *api.Op) { o.Mode = n },
		)
	}
	return l
}

// stripped is o as the chapter's words tell what is bare, part by part.
func stripped(o api.Op) api.Op {
	if o.Kind != 1 {
		o.Task, o.Server = api.Task{}, false
	}
	if o.Kind != 2 && o.Kind != 3 {
		o.ID = 0
	}
	if o.Kind != 3 {
		o.C = 0
	}
	if o.Kind != 4 {
		o.Mode = 0
	}
	return o
}

// mayBe tells it as the chapter's words do, part by part.
func mayBe(o api.Op) bool {
	if o != stripped(o) {
		return false
	}
	id := 0 <= o.ID && o.ID <= 1023
	switch o.Kind {
	case 1:
		t := o.Task
		is := 0 <= t.ID && t.ID <= 1023 && 1 <= t.C && t.C <= t.D && t.D <= t.T && t.T <= 2147483648 && 1 <= t.Modes && t.Modes <= 15
		return is && (!o.Server || t.D == t.T)
	case 2:
		return id
	case 3:
		return id && 1 <= o.C && o.C <= 2147483648
	case 4:
		return 0 <= o.Mode && o.Mode <= 3
	}
	return false
}

// numbers are all that o says, in the order in which they are put.
func numbers(o api.Op) []uint64 {
	l := []uint64{uint64(o.Kind)}
	switch o.Kind {
	case 1:
		t, server := o.Task, uint64(0)
		if o.Server {
			server = 1
		}
		return append(l, uint64(t.ID), uint64(t.C), uint64(t.D), uint64(t.T), uint64(t.Modes), server)
	case 2:
		return append(l, uint64(o.ID))
	case 3:
		return append(l, uint64(o.ID), uint64(o.C))
	}
	return append(l, uint64(o.Mode))
}

// said is the op that says these numbers; false if none that may be does.
func said(l []uint64) (api.Op, bool) {
	for _, n := range l {
		if n > 1<<31 {
			return api.Op{}, false
		}
	}
	var o api.Op
	switch {
	case len(l) == 7 && l[0] == 1 && l[6] <= 1:
		o = api.Op{Kind: 1, Task: api.Task{ID: int(l[1]), C: int64(l[2]), D: int64(l[3]), T: int64(l[4]), Modes: int(l[5])}, Server: l[6] == 1}
	case len(l) == 2 && l[0] == 2:
		o = samples.Removes(int(l[1]))
	case len(l) == 3 && l[0] == 3:
		o = samples.Resizes(int(l[1]), int64(l[2]))
	case len(l) == 2 && l[0] == 4:
		o = samples.TurnsTo(int(l[1]))
	}
	if !mayBe(o) {
		return api.Op{}, false
	}
	return o, true
}

func hex(s string) string {
	if len(s) > 60 {
		return fmt.Sprintf("% x.. (%d bytes)", s[:60], len(s))
	}
	return fmt.Sprintf("% x", s)
}

// checks looks at what Check tells.
func checks(t *testing.T, o api.Op, want bool) {
	t.Helper()
	if got := Check(o); got != want {
		t.Errorf("Check(%+v): %v, want %v", o, got, want)
	}
}

// bares looks at what Bare tells.
func bares(t *testing.T, o, want api.Op) {
	t.Helper()
	if got := Bare(o); got != want {
		t.Errorf("Bare(%+v): %+v, want %+v", o, got, want)
	}
}

// writes looks at what Bytes tells of an op that may be, and at what Read tells of these bytes.
func writes(t *testing.T, o api.Op, want string) {
	t.Helper()
	if got, err := Bytes(o); got != want || err != api.OK {
		t.Errorf("Bytes(%+v): %s, error %d, want %s", o, hex(got), err, hex(want))
	}
	if got, err := Read(want); got != o || err != api.OK {
		t.Errorf("Read(%s): %+v, error %d, want %+v", hex(want), got, err, o)
	}
}

// refuses looks at what Check and Bytes tell of an op that may not be.
func refuses(t *testing.T, o api.Op) {
	t.Helper()
	checks(t, o, false)
	if got, err := Bytes(o); got != "" || err != api.ErrArg {
		t.Errorf("Bytes(%+v): %s, error %d, want nothing, 1", o, hex(got), err)
	}
}

// isNone looks at what Read tells of bytes that no op has.
func isNone(t *testing.T, s string) {
	t.Helper()
	if o, err := Read(s); o != (api.Op{}) || err != api.ErrForm {
		t.Errorf("Read(%s): %+v, error %d, want nothing, 10", hex(s), o, err)
	}
}

// isRead holds what Read tells against what its numbers say, and tells whether there is such an op.
func isRead(t *testing.T, s string) bool {
	t.Helper()
	var want api.Op
	l, is := samples.Parted(s)
	if is {
		want, is = said(l)
	}
	if !is {
		isNone(t, s)
		return false
	}
	writes(t, want, s)
	return true
}

func TestTheChaptersExample(t *testing.T) { // P13.1
	writes(t, samples.Removes(7), "\x01\x02\x01\x07")
}

func TestCheckOfEachKindAtItsBounds(t *testing.T) { // P13.1
	ids := map[int]bool{math.MinInt: false, -2: false, -1: false, 0: true, 1: true, 1022: true, 1023: true, 1024: false, 1025: false, 1 << 32: false, math.MaxInt: false}
	for id, want := range ids {
		checks(t, samples.Removes(id), want)
		checks(t, samples.Resizes(id, 1), want)
		checks(t, samples.Resizes(id, 1<<31), want)
	}
	works := map[int64]bool{math.MinInt64: false, -1: false, 0: false, 1: true, 2: true, 1<<31 - 1: true, 1 << 31: true, 1<<31 + 1: false, 1<<32 + 1: false, math.MaxInt64: false}
	for c, want := range works {
		checks(t, samples.Resizes(0, c), want)
		checks(t, samples.Resizes(1023, c), want)
		checks(t, samples.Resizes(1024, c), false)
	}
	modes := map[int]bool{math.MinInt: false, -1: false, 0: true, 1: true, 2: true, 3: true, 4: false, 5: false, 15: false, 1 << 32: false, math.MaxInt: false}
	for m, want := range modes {
		checks(t, samples.TurnsTo(m), want)
	}
}

func TestCheckOfATask(t *testing.T) { // P13.1
	for _, task := range goodTasks() {
		checks(t, samples.Admits(task), true)
	}
	for _, task := range samples.Wrong() {
		checks(t, samples.Admits(task), false)
	}
	cases := []struct {
		task api.Task
		want bool
	}{
		{api.Task{ID: 0, C: 1, D: 2, T: 3, Modes: 1}, true},
		{api.Task{ID: -1, C: 1, D: 2, T: 3, Modes: 1}, false},
		{api.Task{ID: 1023, C: 1, D: 2, T: 3, Modes: 1}, true},
		{api.Task{ID: 1024, C: 1, D: 2, T: 3, Modes: 1}, false},
		{api.Task{ID: 7, C: 0, D: 2, T: 3, Modes: 1}, false},
		{api.Task{ID: 7, C: 2, D: 2, T: 3, Modes: 1}, true},
		{api.Task{ID: 7, C: 3, D: 2, T: 3, Modes: 1}, false},
		{api.Task{ID: 7, C: 1, D: 3, T: 3, Modes: 1}, true},
		{api.Task{ID: 7, C: 1, D: 4, T: 3, Modes: 1}, false},
		{api.Task{ID: 7, C: 1 << 31, D: 1 << 31, T: 1 << 31, Modes: 1}, true},
		{api.Task{ID: 7, C: 1, D: 1, T: 1<<31 + 1, Modes: 1}, false},
		{api.Task{ID: 7, C: 1, D: 2, T: 3, Modes: 0}, false},
		{api.Task{ID: 7, C: 1, D: 2, T: 3, Modes: 15}, true},
		{api.Task{ID: 7, C: 1, D: 2, T: 3, Modes: 16}, false},
	}
	for _, c := range cases {
		checks(t, samples.Admits(c.task), c.want)
	}
}

func TestCheckOfAServer(t *testing.T) { // P13.1
	for _, task := range goodTasks() {
		checks(t, samples.Serves(task), task.D == task.T)
	}
	for _, task := range samples.Wrong() {
		checks(t, samples.Serves(task), false)
	}
	checks(t, samples.Serves(whole), true)
	for _, d := range []int64{2, 3, 8} {
		task := whole
		task.D = d
		checks(t, samples.Serves(task), false)
		checks(t, samples.Admits(task), true)
	}
}

func TestCheckOfWhatAKindDoesNotSay(t *testing.T) { // P13.1
	kinds := []api.Op{samples.Admits(early), samples.Admits(whole), samples.Serves(whole), samples.Removes(0), samples.Removes(7), samples.Resizes(0, 1), samples.Resizes(7, 9), samples.TurnsTo(0), samples.TurnsTo(2)}
	for _, o := range kinds {
		checks(t, o, true)
		refused := 0
		for _, fill := range fillings() {
			full := o
			fill(&full)
			if stripped(full) == full {
				continue
			}
			refused++
			refuses(t, full)
			bares(t, full, o)
			checks(t, Bare(full), true)
		}
		if refused < 15 {
			t.Errorf("%+v: only %d of the fillings are of what its kind does not say", o, refused)
		}
	}
}

func TestCheckOfOtherKinds(t *testing.T) { // P13.1
	for _, kind := range noKinds() {
		refuses(t, api.Op{Kind: kind})
		for _, o := range []api.Op{samples.Admits(early), samples.Serves(whole), samples.Removes(7), samples.Resizes(7, 9), samples.TurnsTo(2)} {
			o.Kind = kind
			refuses(t, o)
		}
	}
	refuses(t, api.Op{})
}

func TestBareOfEachKind(t *testing.T) { // P13.1
	full := api.Op{Task: whole, Server: true, ID: 5, C: 6, Mode: 3}
	cases := map[int]api.Op{1: samples.Serves(whole), 2: samples.Removes(5), 3: samples.Resizes(5, 6), 4: samples.TurnsTo(3)}
	for _, kind := range noKinds() {
		cases[kind] = api.Op{Kind: kind}
	}
	for kind, want := range cases {
		full.Kind = kind
		bares(t, full, want)
		checks(t, full, false)
	}
}

func TestBareOfWhatIsBare(t *testing.T) { // P13.1
	for _, o := range append(goodOps(), wrongOps()...) {
		bares(t, o, o)
	}
	bares(t, api.Op{}, api.Op{})
}

func TestBareLeavesWhatAKindSaysAsItIs(t *testing.T) { // P13.1
	// Whether an op may be changes nothing of what is bare.
	for _, o := range append(goodOps()[:100], wrongOps()...) {
		full := api.Op{Kind: o.Kind, Task: whole, Server: true, ID: -77, C: -88, Mode: -99}
		switch o.Kind {
		case 1:
			full.Task, full.Server = o.Task, o.Server
		case 2:
			full.ID = o.ID
		case 3:
			full.ID, full.C = o.ID, o.C
		case 4:
			full.Mode = o.Mode
		}
		bares(t, full, o)
	}
}

func TestBytesOfEachKind(t *testing.T) { // P13.1
	writes(t, samples.Admits(early), "\x01\x01"+"\x02\x01\x2c"+"\x01\x01"+"\x01\x04"+"\x01\x05"+"\x01\x03"+"\x00")
	writes(t, samples.Serves(whole), "\x01\x01"+"\x01\x07"+"\x01\x02"+"\x01\x09"+"\x01\x09"+"\x01\x0f"+"\x01\x01")
	writes(t, samples.Admits(whole), "\x01\x01"+"\x01\x07"+"\x01\x02"+"\x01\x09"+"\x01\x09"+"\x01\x0f"+"\x00")
	writes(t, samples.Removes(7), "\x01\x02"+"\x01\x07")
	writes(t, samples.Resizes(7, 300), "\x01\x03"+"\x01\x07"+"\x02\x01\x2c")
	writes(t, samples.TurnsTo(2), "\x01\x04"+"\x01\x02")
}

func TestBytesOfTheLeastAndTheGreatestNumbers(t *testing.T) { // P13.1, P13.2
	const most = "\x04\x80\x00\x00\x00"
	writes(t, samples.Admits(api.Task{ID: 0, C: 1, D: 1, T: 1, Modes: 1}), "\x01\x01"+"\x00"+"\x01\x01"+"\x01\x01"+"\x01\x01"+"\x01\x01"+"\x00")
	writes(t, samples.Serves(api.Task{ID: 1023, C: 1 << 31, D: 1 << 31, T: 1 << 31, Modes: 15}), "\x01\x01"+"\x02\x03\xff"+most+most+most+"\x01\x0f"+"\x01\x01")
	writes(t, samples.Admits(api.Task{ID: 1023, C: 1, D: 1<<31 - 1, T: 1 << 31, Modes: 8}), "\x01\x01"+"\x02\x03\xff"+"\x01\x01"+"\x04\x7f\xff\xff\xff"+most+"\x01\x08"+"\x00")
	writes(t, samples.Removes(0), "\x01\x02"+"\x00")
	writes(t, samples.Removes(1023), "\x01\x02"+"\x02\x03\xff")
	writes(t, samples.Resizes(0, 1), "\x01\x03"+"\x00"+"\x01\x01")
	writes(t, samples.Resizes(1023, 1<<31), "\x01\x03"+"\x02\x03\xff"+most)
	writes(t, samples.TurnsTo(0), "\x01\x04"+"\x00")
	writes(t, samples.TurnsTo(3), "\x01\x04"+"\x01\x03")
}

func TestBytesOfOpsThatMayNotBe(t *testing.T) { // P13.1, R2
	for _, o := range wrongOps() {
		refuses(t, o)
	}
}

func TestWhatWasWrittenIsRead(t *testing.T) { // P13.1, P13.2
	greatest := 0
	for _, o := range append(goodOps(), drawnOps(100000)...) {
		want := samples.Worded(numbers(o)...)
		writes(t, o, want)
		greatest = max(greatest, len(want))
	}
	// The greatest one is 2 and 3 bytes, three times 5, and twice 2.
	if greatest > api.MaxPayload || greatest != 24 {
		t.Errorf("the greatest op has %d bytes, want 24, and at most 43", greatest)
	}
}

func TestNoTwoOpsHaveTheSameBytes(t *testing.T) { // P13.2
	ops := map[string]api.Op{}
	for _, o := range append(goodOps(), drawnOps(50000)...) {
		s, _ := Bytes(o)
		if other, ok := ops[s]; ok && other != o {
			t.Errorf("%+v and %+v: both are %s", other, o, hex(s))
		}
		ops[s] = o
	}
	if len(ops) < 20000 {
		t.Errorf("only %d texts", len(ops))
	}
}

func TestReadOfNothing(t *testing.T) { // P13.1, R1
	isNone(t, "")
}

func TestReadOfBytesThatAreCutOrGoOn(t *testing.T) { // P13.1
	for _, o := range drawnOps(500) {
		s := samples.Worded(numbers(o)...)
		for at := range len(s) {
			isNone(t, s[:at])
			isRead(t, s[at:])
			isRead(t, s[:at]+s[at+1:])
		}
		for b := range 256 {
			isNone(t, s+string([]byte{byte(b)}))
			isRead(t, string([]byte{byte(b)})+s)
		}
		isNone(t, s+s)
	}
}

func TestReadOfBytesOfWhichOneIsTurned(t *testing.T) { // P13.1
	ops := append(drawnOps(100), samples.Admits(early), samples.Serves(whole), samples.Removes(7), samples.Resizes(1023, 1<<31), samples.TurnsTo(0))
	is := 0
	for _, o := range ops {
		for s := range samples.Turned(samples.Worded(numbers(o)...)) {
			if isRead(t, s) {
				is++
			}
		}
	}
	if is < 1000 {
		t.Errorf("only %d of the turned ones are an op's: too few", is)
	}
}

func TestReadOfOtherKinds(t *testing.T) { // P13.1
	for _, o := range []api.Op{samples.Admits(early), samples.Serves(whole), samples.Removes(2), samples.Resizes(2, 1), samples.TurnsTo(2)} {
		l := numbers(o)
		for _, kind := range []uint64{0, 5, 6, 7, 127, 128, 255, 256, 257, 1 << 32, 1<<32 + 2, math.MaxInt64, 1 << 63, 1<<63 + 1, math.MaxUint64} {
			isNone(t, samples.Worded(kind))
			isNone(t, samples.Worded(append([]uint64{kind}, l[1:]...)...))
		}
		for kind := uint64(1); kind <= 4; kind++ {
			isNone(t, samples.Worded(kind))
			isRead(t, samples.Worded(append([]uint64{kind}, l[1:]...)...))
		}
	}
}

func TestReadOfNumbersOutOfTheirBounds(t *testing.T) { // P13.1
	is, none := 0, 0
	for _, o := range append(drawnOps(1000), samples.Admits(early), samples.Serves(whole), samples.Removes(7), samples.Resizes(7, 9), samples.TurnsTo(1)) {
		for _, s := range samples.Replaced(numbers(o)) {
			if isRead(t, s) {
				is++
			} else {
				none++
			}
		}
	}
	if is < 1000 || none < 1000 {
		t.Errorf("%d are an op's, %d are none's: too few of one kind", is, none)
	}
	isNone(t, samples.Worded(2, 1024))
	isNone(t, samples.Worded(3, 1024, 1))
	isNone(t, samples.Worded(3, 7, 0))
	isNone(t, samples.Worded(3, 7, 1<<31+1))
	isNone(t, samples.Worded(4, 4))
	isNone(t, samples.Worded(1, 1024, 1, 4, 5, 3, 0))
	isNone(t, samples.Worded(1, 300, 0, 4, 5, 3, 0))
	isNone(t, samples.Worded(1, 300, 5, 4, 5, 3, 0))
	isNone(t, samples.Worded(1, 300, 1, 6, 5, 3, 0))
	isNone(t, samples.Worded(1, 300, 1, 4, 1<<31+1, 3, 0))
	isNone(t, samples.Worded(1, 300, 1, 4, 5, 0, 0))
	isNone(t, samples.Worded(1, 300, 1, 4, 5, 16, 0))
	isNone(t, samples.Worded(1, 300, 1, 4, 5, 3, 1)) // a server whose D is not its T
}

func TestReadOfNumbersOfMoreBytesThanTheyNeed(t *testing.T) { // P13.1
	for _, o := range append(drawnOps(1000), samples.Admits(early), samples.Serves(whole), samples.Removes(7), samples.Resizes(7, 9), samples.TurnsTo(0)) {
		for _, s := range samples.Padded(numbers(o)) {
			isNone(t, s)
		}
	}
}

func TestReadOfFlagsThatAreNeither(t *testing.T) { // P13.1
	s := samples.Worded(numbers(samples.Admits(whole))[:6]...)
	for _, flag := range samples.NoFlags() {
		isNone(t, s+flag)
	}
	writes(t, samples.Admits(whole), s+"\x00")
	writes(t, samples.Serves(whole), s+"\x01\x01")
}

func TestReadOfLongTexts(t *testing.T) { // P13.1, R5
	for _, n := range []int{43, 44, 64, 1 << 10, 1 << 20} {
		for b := range 256 {
			if n > 64 && b > 9 {
				break
			}
			isNone(t, strings.Repeat(string([]byte{byte(b)}), n))
		}
		isNone(t, strings.Repeat("\x01\x02\x01\x07", n))
		isNone(t, "\x01\x02\x01\x07"+strings.Repeat("\x00", n))
	}
}

func TestReadOfAllShortTextsOfSomeBytes(t *testing.T) { // P13.1
	is := 0
	for _, s := range samples.Short(6, 0, 1, 2, 3, 4, 5, 8, 9, 255) {
		if isRead(t, s) {
			is++
		}
	}
	// 1, 8 and 27 IDs of one, two and three bytes of a remove, 4 modes, and of a resize 80 Cs of ID 0, and 8 of 8 other ones.
	if want := 36 + 4 + 80 + 64; is != want {
		t.Errorf("%d of the texts are an op's, want %d", is, want)
	}
}

func TestWhatReadTellsHasJustTheseBytes(t *testing.T) { // P13.1
	draw := samples.Drawing(7)
	pieces := []uint64{0, 1, 2, 3, 4, 5, 7, 15, 16, 255, 256, 1023, 1024, 1<<31 - 1, 1 << 31, 1<<31 + 1, 1 << 40, math.MaxUint64}
	is := map[uint64]int{}
	for range 500000 {
		var l []uint64
		size := []int64{2, 3, 7, 7, 7, draw(9)}[draw(6)]
		for len(l) < int(size) {
			n := pieces[draw(int64(len(pieces)))]
			if draw(2) == 0 {
				n = 1 + uint64(draw(4))
			}
			l = append(l, n)
		}
		if len(l) == 7 && draw(2) == 0 {
			slices.Sort(l[2:5])
			l[0], l[5], l[6] = 1, 1+uint64(draw(16)), uint64(draw(3))
		}
		s := []byte(samples.Worded(l...))
		if len(s) > 0 && draw(4) == 0 {
			s[draw(int64(len(s)))] = byte(draw(256))
		}
		o, err := Read(string(s))
		if bytes, _ := Bytes(o); err == api.OK && bytes != string(s) {
			t.Errorf("Read(%s): %+v, whose bytes are %s", hex(string(s)), o, hex(bytes))
		}
		if isRead(t, string(s)) {
			is[uint64(o.Kind)]++
		} else {
			is[0]++
		}
	}
	for kind := range uint64(5) {
		if is[kind] < 1000 {
			t.Errorf("only %d of kind %d: too few", is[kind], kind)
		}
	}
}

func TestNameOfEachKind(t *testing.T) { // P13.1
	cases := map[int]string{1: "admit", 2: "remove", 3: "resize", 4: "mode"}
	for _, kind := range noKinds() {
		cases[kind] = "none"
	}
	for kind, want := range cases {
		if got := Name(kind); got != want {
			t.Errorf("Name(%d): %s, want %s", kind, got, want)
		}
	}
}

func TestAllCallsAtAllArguments(t *testing.T) { // P1, P13.1, R4
	tasks := append(samples.Wrong(), early, whole)
	kinds := append(noKinds(), 1, 2, 3, 4)
	for _, kind := range kinds {
		for _, task := range tasks {
			for _, server := range []bool{false, true} {
				for _, id := range []int{math.MinInt, -1, 0, 1023, 1024, math.MaxInt} {
					for _, c := range []int64{math.MinInt64, 0, 1 << 31, 1<<31 + 1, math.MaxInt64} {
						for _, m := range []int{math.MinInt, -1, 0, 3, 4, math.MaxInt} {
							isAsTheWordsTell(t, api.Op{Kind: kind, Task: task, Server: server, ID: id, C: c, Mode: m})
						}
					}
				}
			}
		}
	}
}

// isAsTheWordsTell looks at what all calls tell of o, and of what is bare of it.
func isAsTheWordsTell(t *testing.T, o api.Op) {
	t.Helper()
	bare := stripped(o)
	bares(t, o, bare)
	for _, x := range []api.Op{o, bare} {
		if mayBe(x) {
			checks(t, x, true)
			writes(t, x, samples.Worded(numbers(x)...))
		} else {
			refuses(t, x)
		}
	}
}
