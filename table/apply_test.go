package table

import (
	"math"
	"testing"

	"horarium/api"
	"horarium/ops"
	"horarium/samples"
)

// admits is the op that admits the task, or the server, of r.
func admits(r api.Row) api.Op {
	o := samples.Admits(r.Task)
	o.Server = r.Server
	return o
}

// noOps are ops that may not be, of IDs that are 5 where they can be.
func noOps() []api.Op {
	l := []api.Op{
		{}, {Kind: -1}, {Kind: 5}, {Kind: math.MinInt}, {Kind: math.MaxInt}, {Kind: 0, ID: 5}, {Kind: 5, ID: 5}, {Kind: 5, Mode: 1},
		samples.Removes(-1), samples.Removes(1024), samples.Removes(math.MaxInt), {Kind: 2, ID: 5, C: 1}, {Kind: 2, ID: 5, Mode: 1}, {Kind: 2, ID: 5, Server: true}, {Kind: 2, ID: 5, Task: row(5).Task},
		samples.Resizes(5, 0), samples.Resizes(5, -1), samples.Resizes(5, 1<<31+1), samples.Resizes(5, math.MinInt64), samples.Resizes(5, math.MaxInt64), samples.Resizes(-1, 1), samples.Resizes(1024, 1), {Kind: 3, ID: 5, C: 1, Mode: 1},
		samples.TurnsTo(-1), samples.TurnsTo(4), samples.TurnsTo(math.MinInt), samples.TurnsTo(math.MaxInt), {Kind: 4, ID: 5}, {Kind: 4, Mode: 1, C: 1},
		{Kind: 1, Task: row(5).Task, ID: 5}, {Kind: 1, Task: row(5).Task, Server: true}, {Kind: 1, Task: row(5).Task, Mode: 1}, {Kind: 1, ID: 5},
	}
	for _, task := range samples.Wrong() {
		l = append(l, samples.Admits(task), samples.Serves(task))
	}
	return l
}

// applied is what o makes of t, as the chapter's words tell it of rows by their IDs.
func applied(t api.Table, o api.Op) (api.Table, api.Errno) {
	if !isTable(t) || !ops.Check(o) {
		return api.Table{}, api.ErrArg
	}
	rows, mode, id := map[int]api.Row{}, t.Mode, o.ID
	for _, r := range t.Rows {
		rows[r.Task.ID] = r
	}
	if o.Kind == 1 {
		id = o.Task.ID
	}
	r, there := rows[id]
	switch {
	case o.Kind == 1 && there:
		return api.Table{}, api.ErrThere
	case o.Kind == 1 && len(rows) == 16:
		return api.Table{}, api.ErrFull
	case o.Kind == 1:
		rows[id] = api.Row{Task: o.Task, Server: o.Server}
	case o.Kind == 4:
		mode = o.Mode
	case !there:
		return api.Table{}, api.ErrNone
	case o.Kind == 2:
		delete(rows, id)
	case o.C > r.Task.D:
		return api.Table{}, api.ErrArg
	default:
		r.Task.C = o.C
		rows[id] = r
	}
	return risen(mode, rows), api.OK
}

// applies looks at what Apply tells of t and o, and that it is the caller's own, and t left as it was.
func applies(t *testing.T, x api.Table, o api.Op) api.Errno {
	t.Helper()
	want, err := applied(x, o)
	given, all := roomy(x)
	_, kept := roomy(x)
	untouched := func() bool { return equal(api.Table{Rows: all}, api.Table{Rows: kept}) }
	got, e := Apply(given, o)
	if !equal(got, want) || e != err {
		t.Errorf("Apply(%v, %+v): %v, error %d, want %v, %d", x, o, got, e, want, err)
	}
	if err == api.OK && !Check(got) {
		t.Errorf("Apply(%v, %+v): %v, that may not be", x, o, got)
	}
	if !untouched() {
		t.Errorf("Apply(%v, %+v): what was given is %v", x, o, all)
	}
	again, _ := Apply(given, o)
	spoil(got.Rows)
	if !untouched() || !equal(again, want) {
		t.Errorf("Apply(%v, %+v): what was told shares rows with what was given, or was told", x, o)
	}
	spoil(all)
	if !equal(again, want) {
		t.Errorf("Apply(%v, %+v): what was told hangs on what was given", x, o)
	}
	return err
}

// fails looks at the error that Apply tells, and that it is so by the chapter's words.
func fails(t *testing.T, x api.Table, o api.Op, want api.Errno) {
	t.Helper()
	if got, err := Apply(x, o); err != want || len(got.Rows) != 0 || got.Mode != 0 {
		t.Errorf("Apply(%v, %+v): %v, error %d, want nothing, %d", x, o, got, err, want)
	}
	if err := applies(t, x, o); err != want {
		t.Errorf("%v, %+v: error %d by the words, want %d", x, o, err, want)
	}
}

// makes looks at the table that Apply tells, and that it is so by the chapter's words.
func makes(t *testing.T, x api.Table, o api.Op, want api.Table) {
	t.Helper()
	if got, err := Apply(x, o); err != api.OK || !equal(got, want) {
		t.Errorf("Apply(%v, %+v): %v, error %d, want %v", x, o, got, err, want)
	}
	applies(t, x, o)
}

func TestAdmitAtEachPlace(t *testing.T) { // P14.1
	makes(t, of(0), admits(row(7)), of(0, 7))
	makes(t, of(3), admits(row(6)), of(3, 6))
	makes(t, of(1, 7), admits(row(0)), of(1, 0, 7))
	makes(t, of(1, 7), admits(row(1023)), of(1, 7, 1023))
	makes(t, of(2, 1, 3, 5), admits(row(0)), of(2, 0, 1, 3, 5))
	makes(t, of(2, 1, 3, 5), admits(row(2)), of(2, 1, 2, 3, 5))
	makes(t, of(2, 1, 3, 5), admits(row(4)), of(2, 1, 3, 4, 5))
	makes(t, of(2, 1, 3, 5), admits(row(6)), of(2, 1, 3, 5, 6))
	for n := range 16 {
		for at := range n + 1 {
			x := rising(n)
			r := row(10*at + 5)
			want := copied(x)
			want.Rows = append(append(copied(x).Rows[:at], r), x.Rows[at:]...)
			makes(t, x, admits(r), want)
		}
	}
}

func TestAdmitOfWhatIsThere(t *testing.T) { // P14.1
	for n := 1; n <= 16; n++ {
		for _, r := range rising(n).Rows {
			fails(t, rising(n), admits(r), api.ErrThere)
			other := api.Row{Task: api.Task{ID: r.Task.ID, C: 1, D: 1, T: 1, Modes: 1}}
			fails(t, rising(n), admits(other), api.ErrThere)
			other.Server = true
			fails(t, rising(n), admits(other), api.ErrThere)
		}
	}
}

func TestAdmitToAFullTable(t *testing.T) { // P14.1
	for _, id := range []int{0, 9, 11, 15, 75, 85, 155, 159, 161, 1023} {
		fails(t, rising(16), admits(row(id)), api.ErrFull)
		if err := applies(t, rising(15), admits(row(id))); err != api.OK {
			t.Errorf("admit %d to 15 rows: error %d", id, err)
		}
	}
	fails(t, rising(16), admits(row(10)), api.ErrThere)
	fails(t, rising(16), admits(row(160)), api.ErrThere)
}

func TestRemoveAtEachPlace(t *testing.T) { // P14.1
	makes(t, of(3, 7), samples.Removes(7), of(3))
	makes(t, of(1, 0, 1023), samples.Removes(0), of(1, 1023))
	makes(t, of(1, 0, 1023), samples.Removes(1023), of(1, 0))
	makes(t, of(2, 1, 3, 5), samples.Removes(1), of(2, 3, 5))
	makes(t, of(2, 1, 3, 5), samples.Removes(3), of(2, 1, 5))
	makes(t, of(2, 1, 3, 5), samples.Removes(5), of(2, 1, 3))
	for n := 1; n <= 16; n++ {
		for at := range n {
			want := rising(n)
			want.Rows = append(want.Rows[:at], want.Rows[at+1:]...)
			makes(t, rising(n), samples.Removes(10*(at+1)), want)
		}
	}
}

func TestRemoveOfWhatIsNot(t *testing.T) { // P14.1
	for n := range 17 {
		for at := range n + 1 {
			for _, id := range []int{10*at + 1, 10*at + 5, 10*at + 9, 1023, 0} {
				fails(t, rising(n), samples.Removes(id), api.ErrNone)
			}
		}
	}
}

func TestResizeAtEachPlace(t *testing.T) { // P14.1
	for n := 1; n <= 16; n++ {
		for at, r := range rising(n).Rows {
			for c := int64(1); c <= r.Task.D; c++ {
				makes(t, rising(n), samples.Resizes(r.Task.ID, c), altered(rising(n), at, func(r *api.Row) { r.Task.C = c }))
			}
			for _, c := range []int64{r.Task.D + 1, r.Task.D + 2, r.Task.T + 1, 1<<31 - 1, 1 << 31} {
				fails(t, rising(n), samples.Resizes(r.Task.ID, c), api.ErrArg)
			}
		}
	}
	great := api.Table{Rows: []api.Row{{Task: api.Task{ID: 5, C: 1, D: 1 << 31, T: 1 << 31, Modes: 1}, Server: true}}}
	makes(t, great, samples.Resizes(5, 1<<31), altered(great, 0, func(r *api.Row) { r.Task.C = 1 << 31 }))
	early := altered(great, 0, func(r *api.Row) { r.Task.D, r.Server = 4, false })
	fails(t, early, samples.Resizes(5, 5), api.ErrArg) // above D, though not above T
}

func TestResizeOfWhatIsNot(t *testing.T) { // P14.1
	for n := range 17 {
		for at := range n + 1 {
			for _, id := range []int{10*at + 1, 10*at + 5, 10*at + 9, 1023, 0} {
				fails(t, rising(n), samples.Resizes(id, 1), api.ErrNone)
				fails(t, rising(n), samples.Resizes(id, 1<<31), api.ErrNone)
			}
		}
	}
}

func TestTurnToEachMode(t *testing.T) { // P14.1
	for n := range 17 {
		for from := range 4 {
			for to := range 4 {
				x, want := rising(n), rising(n)
				x.Mode, want.Mode = from, to
				makes(t, x, samples.TurnsTo(to), want)
			}
		}
	}
}

func TestApplyOfOpsThatMayNotBe(t *testing.T) { // P14.1, R2
	// It is told ahead of all that the table would say: of ID 5 there is none, there is one, and there is no room.
	for _, x := range []api.Table{of(0), of(1, 5), of(2, 4, 5, 6), rising(16), of(3, 4, 6), rising(1)} {
		for _, o := range noOps() {
			fails(t, x, o, api.ErrArg)
		}
	}
}

func TestApplyToTablesThatMayNotBe(t *testing.T) { // P14.1, R2
	for _, x := range wrong() {
		for _, o := range []api.Op{admits(row(5)), admits(row(7)), samples.Removes(5), samples.Removes(7), samples.Resizes(5, 1), samples.Resizes(5, 1<<31), samples.Resizes(7, 1), samples.TurnsTo(0), samples.TurnsTo(3), {}} {
			fails(t, x, o, api.ErrArg)
		}
	}
}

// drawnOp is an op that looks drawn by chance, mostly one that may be, of IDs below most.
func drawnOp(draw func(n int64) int64, most int64) api.Op {
	greatest := []int64{3, 12, 300, 1 << 31}[draw(4)]
	switch draw(10) {
	case 0, 1, 2, 3:
		return admits(drawn(draw, 1, most).Rows[0])
	case 4, 5:
		return samples.Removes(int(draw(most)))
	case 6, 7:
		return samples.Resizes(int(draw(most)), 1+draw(greatest))
	case 8:
		return samples.TurnsTo(int(draw(4)))
	}
	l := noOps()
	return l[draw(int64(len(l)))]
}

func TestApplyOfManyOps(t *testing.T) { // P14.1
	draw := samples.Drawing(2)
	errors := map[api.Errno]int{}
	for range 300 {
		most := []int64{8, 20, 24, 1024}[draw(4)]
		x := drawn(draw, int(draw(9)), most)
		for range 60 {
			o := drawnOp(draw, most)
			errors[applies(t, x, o)]++
			if next, err := Apply(x, o); err == api.OK {
				x = next
			}
		}
	}
	for _, err := range []api.Errno{api.OK, api.ErrArg, api.ErrNone, api.ErrThere, api.ErrFull} {
		if errors[err] < 200 {
			t.Errorf("%v: too few of error %d", errors, err)
		}
	}
}

func TestWhatWasAdmittedAndRemovedIsAsItWas(t *testing.T) { // P14.4
	draw := samples.Drawing(9)
	for range 20000 {
		x := drawn(draw, int(draw(16)), 64)
		r := drawn(draw, 1, 64).Rows[0]
		with, err := Apply(x, admits(r))
		if _, there := Find(x, r.Task.ID); there {
			if err != api.ErrThere {
				t.Errorf("Apply(%v, admit %v): error %d, want 14", x, r, err)
			}
			continue
		}
		if got, there := Find(with, r.Task.ID); err != api.OK || !there || got != r || len(with.Rows) != len(x.Rows)+1 {
			t.Errorf("Apply(%v, admit %v): %v, error %d", x, r, with, err)
		}
		back, err := Apply(with, samples.Removes(r.Task.ID))
		if err != api.OK || !equal(back, x) || !Same(back, x) {
			t.Errorf("Apply(%v, remove %d): %v, error %d, want %v", with, r.Task.ID, back, err, x)
		}
	}
}

// written are the bytes of an op that may be.
func written(t *testing.T, o api.Op) string {
	t.Helper()
	s, err := ops.Bytes(o)
	if err != api.OK {
		t.Fatalf("%+v may not be", o)
	}
	return s
}

// replayed is what l makes of x, as the chapter's words tell it.
func replayed(x api.Table, l []string) (api.Table, int) {
	for n, s := range l {
		o, err := ops.Read(s)
		next, e := applied(x, o)
		if err != api.OK || e != api.OK {
			return x, n
		}
		x = next
	}
	return x, len(l)
}

// replays looks at what Replay tells of x and l, and that it is the caller's own, and x and l left as they were.
func replays(t *testing.T, x api.Table, l []string) int {
	t.Helper()
	want, n := replayed(x, l)
	given, all := roomy(x)
	_, kept := roomy(x)
	untouched := func() bool { return equal(api.Table{Rows: all}, api.Table{Rows: kept}) }
	texts := append([]string{}, l...)
	got, m := Replay(given, texts)
	again, _ := Replay(given, texts)
	if !equal(got, want) || m != n {
		t.Errorf("Replay(%v, %x): %v, %d, want %v, %d", x, l, got, m, want, n)
	}
	for i := range l {
		if texts[i] != l[i] {
			t.Errorf("Replay(%v, %x): the text at %d is changed", x, l, i)
		}
	}
	if !untouched() {
		t.Errorf("Replay(%v, %x): what was given is %v", x, l, all)
	}
	spoil(got.Rows)
	if !untouched() || !equal(again, want) {
		t.Errorf("Replay(%v, %x): what was told shares rows with what was given, or was told", x, l)
	}
	spoil(all)
	if !equal(again, want) {
		t.Errorf("Replay(%v, %x): what was told hangs on what was given", x, l)
	}
	return n
}

// some are texts that all are ops, and can be applied to of(1, 5, 9), one behind the other.
func some(t *testing.T) []string {
	l := []string{}
	for _, o := range []api.Op{admits(row(7)), samples.TurnsTo(3), samples.Removes(5), samples.Resizes(7, 1), admits(row(5)), samples.Removes(9), samples.TurnsTo(0), admits(row(9))} {
		l = append(l, written(t, o))
	}
	return l
}

func TestReplayOfNoTexts(t *testing.T) { // P14.1
	for _, x := range good() {
		for _, l := range [][]string{nil, {}} {
			if got, n := Replay(x, l); n != 0 || !equal(got, x) {
				t.Errorf("Replay(%v, nothing): %v, %d", x, got, n)
			}
			replays(t, x, l)
		}
	}
}

func TestReplayOfOps(t *testing.T) { // P14.1
	want := of(0, 5, 7, 9)
	want.Rows[1].Task.C = 1
	if got, n := Replay(of(1, 5, 9), some(t)); n != 8 || !equal(got, want) {
		t.Errorf("Replay: %v, %d, want %v, 8", got, n, want)
	}
	for n := range 9 {
		if m := replays(t, of(1, 5, 9), some(t)[:n]); m != n {
			t.Errorf("of %d texts %d are applied", n, m)
		}
	}
	full := rising(15)
	l := []string{written(t, admits(row(5))), written(t, samples.Removes(10)), written(t, admits(row(999)))}
	if m := replays(t, full, l); m != 3 {
		t.Errorf("of 3 texts %d are applied", m)
	}
}

func TestReplayOfATextThatIsNoOp(t *testing.T) { // P14.1
	s := written(t, samples.Removes(5))
	none := []string{"", "\x00", "\x01\x05", s[:1], s[:len(s)-1], s + "\x00", s + s, "\x01\x02\x02\x00\x05", "\x01\x04\x01\x04", "no op has these bytes, and they are more than 43 of them"}
	for at := range 9 {
		for _, x := range none {
			l := some(t)
			l = append(append(append([]string{}, l[:at]...), x), l[at:]...)
			if n := replays(t, of(1, 5, 9), l); n != at {
				t.Errorf("%x at %d: %d are applied", x, at, n)
			}
		}
	}
}

func TestReplayOfAnOpThatCannotBeApplied(t *testing.T) { // P14.1
	for at := range 9 {
		for _, o := range []api.Op{samples.Removes(77), samples.Resizes(77, 1), admits(row(9)), samples.Resizes(9, 1<<31)} {
			l := some(t)[:at]
			now, _ := Replay(of(1, 5, 9), l)
			if _, err := Apply(now, o); err == api.OK {
				continue
			}
			// What comes behind it could be applied, and is not.
			l = append(l, written(t, o), written(t, samples.TurnsTo(2)), written(t, samples.TurnsTo(1)))
			got, n := Replay(of(1, 5, 9), l)
			if n != at || !equal(got, now) {
				t.Errorf("%+v at %d: %v, %d, want %v", o, at, got, n, now)
			}
			replays(t, of(1, 5, 9), l)
		}
	}
	l := []string{written(t, samples.TurnsTo(2)), written(t, admits(row(5))), written(t, samples.Removes(10))}
	if got, n := Replay(rising(16), l); n != 1 || got.Mode != 2 || len(got.Rows) != 16 {
		t.Errorf("Replay of an admit to 16 rows: %v, %d", got, n)
	}
}

func TestReplayToTablesThatMayNotBe(t *testing.T) { // P14.1
	for _, x := range append(wrong(), rising(5000)) {
		for _, l := range [][]string{nil, {""}, {written(t, samples.TurnsTo(0))}, {written(t, samples.Removes(5)), written(t, samples.TurnsTo(1))}, some(t)} {
			if got, n := Replay(x, l); n != 0 || !equal(got, x) {
				t.Errorf("Replay(%v, %x): %v, %d", x, l, got, n)
			}
			replays(t, x, l)
		}
	}
}

func TestReplayOfManyTexts(t *testing.T) { // P14.1
	draw := samples.Drawing(5)
	all, part := 0, 0
	for range 3000 {
		most := []int64{8, 20, 1024}[draw(3)]
		x := drawn(draw, int(draw(min(17, most))), most)
		var l []string
		for range draw(8) {
			s, err := ops.Bytes(drawnOp(draw, most))
			if err != api.OK && draw(2) == 0 {
				continue
			}
			l = append(l, s)
		}
		if n := replays(t, x, l); n == len(l) {
			all++
		} else {
			part++
		}
	}
	if all < 300 || part < 300 {
		t.Errorf("%d were applied whole, %d in part: too few of one kind", all, part)
	}
}
