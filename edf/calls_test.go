package edf

import (
	"fmt"
	"math"
	"slices"
	"testing"

	"horarium/api"
	"horarium/samples"
)

// list is what an executive must tell like: a plain list of jobs, those ahead first.
type list []api.Job

func (l *list) at(id int) int {
	return slices.IndexFunc(*l, func(j api.Job) bool { return j.ID == id })
}

func (l *list) add(j api.Job) api.Errno {
	if j.Left <= 0 || j.Left > 2147483648 || j.Release < 0 || j.Release > 1099511627776 || j.Deadline <= j.Release || j.Deadline > 2199023255552 {
		return api.ErrArg
	}
	if l.at(j.ID) >= 0 {
		return api.ErrThere
	}
	*l = ordered(append(*l, j))
	return api.OK
}

func (l *list) run() api.Ran {
	if len(*l) == 0 {
		return api.Ran{ID: -1}
	}
	first := &(*l)[0]
	first.Left--
	ran := api.Ran{ID: first.ID, Done: first.Left == 0}
	if ran.Done {
		*l = (*l)[1:]
	}
	return ran
}

// drawing draws jobs, all of them of one kind.
type drawing struct {
	draw func(n int64) int64
	ids  []int
	// span is how far deadlines lie apart, and work how much is left, at most.
	span, work int64
}

func drawings(seed int) *drawing {
	d := &drawing{draw: samples.Drawing(seed), span: []int64{1, 3, 30, samples.Last}[seed%4], work: []int64{1, 2, 5, 12}[seed/4%4]}
	for range 1 + d.draw(20) {
		id := int(d.draw(40)) - 20
		if d.draw(4) == 0 {
			id = ids()[d.draw(int64(len(ids())))]
		}
		d.ids = append(d.ids, id)
	}
	return d
}

// job is one that may be.
func (d *drawing) job() api.Job {
	release := d.draw(min(d.span, 10))
	return api.Job{ID: d.ids[d.draw(int64(len(d.ids)))], Release: release, Deadline: release + 1 + d.draw(d.span), Left: 1 + d.draw(d.work)}
}

// any is a job that may be, and now and then one that may not.
func (d *drawing) any() api.Job {
	j := d.job()
	if d.draw(8) == 0 {
		l := wrong(j.ID)
		return l[d.draw(int64(len(l)))]
	}
	return j
}

// TestDrawnCalls holds each call against the plain list.
func TestDrawnCalls(t *testing.T) { // P18.1, P18.2
	told := map[api.Errno]int{}
	for seed := range 400 {
		d, x, l := drawings(seed), New(), &list{}
		adds := 2 + d.draw(8)
		for i := range 100 {
			what := fmt.Sprintf("seed %d, call %d", seed, i)
			switch k := d.draw(12); {
			case k < adds:
				j := d.any()
				want := l.add(j)
				is(t, x, j, want)
				told[want]++
			case k < 11 || d.draw(5) > 0:
				want := l.run()
				runs(t, what, x, want.ID, want.Done)
			default:
				own(t, what+": Drop", x.Drop(), *l)
				*l = nil
			}
			has(t, what, x, *l...)
		}
	}
	if told[api.OK] < 5000 || told[api.ErrArg] < 2000 || told[api.ErrThere] < 4000 {
		t.Errorf("the drawn jobs are too much alike: %v", told)
	}
}

// TestAsMuchRunsAsWasAdded: all in all, of each ID, and of each job up to its end, amid which others are added.
func TestAsMuchRunsAsWasAdded(t *testing.T) { // P18.3
	for seed := range 400 {
		d, x := drawings(seed), New()
		// What was added, and ran, of the job of each ID that is there.
		added, ran := map[int]int64{}, map[int]int64{}
		var in, out, jobs, done int64
		run := func() {
			r := x.Run()
			ran[r.ID]++
			out++
			if r.Done != (ran[r.ID] == added[r.ID]) || ran[r.ID] > added[r.ID] {
				t.Fatalf("seed %d: of %d %d of %d ran: %v", seed, r.ID, ran[r.ID], added[r.ID], r)
			}
			if r.Done {
				added[r.ID], ran[r.ID] = 0, 0
				done++
			}
		}
		for range 120 {
			if d.draw(3) > 0 && !x.Idle() {
				run()
			} else if j := d.job(); x.Add(j) == api.OK {
				added[j.ID] = j.Left
				in += j.Left
				jobs++
			}
			if x.Left() != in-out {
				t.Fatalf("seed %d: Left: %d, but %d were added, and %d ran", seed, x.Left(), in, out)
			}
		}
		for !x.Idle() {
			run()
		}
		if in != out || jobs != done || in == 0 {
			t.Errorf("seed %d: %d of %d ran, %d of %d jobs are done", seed, out, in, done, jobs)
		}
	}
}

// TestAnyOrderOfAddsRunsTheSame: jobs that are there ahead of the first Run run in one row, however they were added.
func TestAnyOrderOfAddsRunsTheSame(t *testing.T) { // P18.3, R4
	for seed := range 100 {
		d, l := drawings(seed), &list{}
		for range 30 {
			l.add(d.job())
		}
		mixed := slices.Clone(*l)
		for i := range mixed {
			k := int(d.draw(int64(i + 1)))
			mixed[i], mixed[k] = mixed[k], mixed[i]
		}
		one, other := filled(t, *l...), filled(t, mixed...)
		for range sum(*l) + 1 {
			if a, b := one.Run(), other.Run(); a != b {
				t.Fatalf("seed %d: Run: %v, and %v of the same jobs in another order", seed, a, b)
			}
		}
		has(t, "in the end", one)
		has(t, "in the end", other)
	}
}

// TestManyJobsOfTheGreatestWork: how much is left of all does not wrap round.
func TestManyJobsOfTheGreatestWork(t *testing.T) { // P18.2, R5
	const n = 100000
	x := New()
	for i := range n {
		is(t, x, due(i, 10, api.MaxT), api.OK)
		if i == 0 || i == 1 || i == 2 || i == n-1 {
			if left := x.Left(); left != int64(i+1)*api.MaxT {
				t.Fatalf("Left of %d jobs: %d", i+1, left)
			}
		}
	}
	runs(t, "of many", x, 0, false)
	if left := x.Left(); left != n*api.MaxT-1 {
		t.Errorf("Left behind Run: %d, want %d", left, int64(n*api.MaxT-1))
	}
	if len(x.Drop()) != n || x.Left() != 0 {
		t.Errorf("Drop: not all, or Left: %d", x.Left())
	}
}

// TestMany: nothing limits how many jobs there are.
func TestMany(t *testing.T) { // P18.1, P18.2, R5
	const n = 200000
	draw := samples.Drawing(18)
	x := New()
	var all []api.Job
	for i := range n {
		id := i * 31 % n
		switch i % 3 {
		case 1:
			id = -id - 1
		case 2:
			id = math.MaxInt - id
		}
		j := api.Job{ID: id, Release: int64(i % 9), Deadline: 10 + draw(n), Left: 1 + int64(i%2)}
		is(t, x, j, api.OK)
		is(t, x, j, api.ErrThere)
		all = append(all, j)
	}
	all = ordered(all)
	own(t, "of many: Pending", x.Pending(), all)
	half := all[n/2].Deadline
	late := slices.IndexFunc(all, func(j api.Job) bool { return j.Deadline > half })
	own(t, "of many: Late", x.Late(half), all[:late])
	for _, j := range all[:n/2] {
		for left := j.Left; left > 0; left-- {
			runs(t, "of many", x, j.ID, left == 1)
		}
		if x.Has(j.ID) {
			t.Fatalf("Has(%d): true, when it is done", j.ID)
		}
	}
	if left := x.Left(); left != sum(all[n/2:]) {
		t.Errorf("of many: Left: %d, want %d", left, sum(all[n/2:]))
	}
	own(t, "of many: Drop", x.Drop(), all[n/2:])
	has(t, "behind Drop of many", x)
}
