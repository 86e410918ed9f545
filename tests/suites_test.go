package tests

import (
	"fmt"
	"maps"
	"math"
	"slices"
	"testing"

	"loop.example/g00051/impl"
)

func TestSuiteNumbers(t *testing.T) {
	got := []int64{impl.MaxTasks, impl.JWait, impl.JRun, impl.JDone, impl.JLost}
	if want := []int64{60, 0, 1, 2, 3}; !slices.Equal(got, want) {
		t.Error(got, "and not", want)
	}
}

func taskOf(group, late, most int64, after ...int64) impl.Task {
	return impl.Task{After: after, Group: group, Late: late, Most: most}
}

func jobOf(how, tries int64) impl.Job {
	return impl.Job{How: how, Tries: tries}
}

func sameTask(a, b impl.Task) bool {
	return a.Group == b.Group && a.Late == b.Late && a.Most == b.Most && slices.Equal(a.After, b.After)
}

func sameRun(a, b impl.Run) bool {
	return a.Now == b.Now && slices.Equal(a.Tasks, b.Tasks) && slices.Equal(a.Suite.Limits, b.Suite.Limits) && slices.EqualFunc(a.Suite.Tasks, b.Suite.Tasks, sameTask)
}

func copyOfSuite(s impl.Suite) impl.Suite {
	s.Tasks, s.Limits = slices.Clone(s.Tasks), slices.Clone(s.Limits)
	for i := range s.Tasks {
		s.Tasks[i].After = slices.Clone(s.Tasks[i].After)
	}
	return s
}

func copyOfRun(r impl.Run) impl.Run {
	return impl.Run{Suite: copyOfSuite(r.Suite), Now: r.Now, Tasks: slices.Clone(r.Tasks)}
}

// busyRun has a task done, two that run, one lost, and three that wait: with a try behind it, behind a lost one, and behind that.
func busyRun() impl.Run {
	return impl.Run{
		Suite: impl.Suite{
			Limits: []int64{1, 2},
			Tasks:  []impl.Task{taskOf(1, 0, 2), taskOf(1, 50, 3, 1), taskOf(2, 40, 1), taskOf(2, 30, 2, 1), taskOf(2, 20, 5, 1), taskOf(2, 10, 1, 3, 4), taskOf(1, 60, 4, 2, 6)},
		},
		Now:   10,
		Tasks: []impl.Job{jobOf(impl.JDone, 1), jobOf(impl.JRun, 2), jobOf(impl.JLost, 1), jobOf(impl.JWait, 1), jobOf(impl.JRun, 5), jobOf(impl.JWait, 0), jobOf(impl.JWait, 3)},
	}
}

// alikeSuite has so many tasks of one group, none behind another.
func alikeSuite(tasks int, limit int64) impl.Suite {
	return impl.Suite{Tasks: times(tasks, taskOf(1, 0, 1)), Limits: []int64{limit}}
}

// chainSuite has so many tasks, each behind all that are ahead of it.
func chainSuite(tasks int) impl.Suite {
	s := impl.Suite{Limits: []int64{60}}
	for i := range tasks {
		s.Tasks = append(s.Tasks, taskOf(1, int64(i), 2, riseFrom(1, i)...))
	}
	return s
}

type suiteEdits map[string]func(s *impl.Suite)

func rightSuites() suiteEdits {
	const clock = impl.MaxClock
	return suiteEdits{
		"as it is": func(s *impl.Suite) {}, "1 task": func(s *impl.Suite) { *s = alikeSuite(1, 1) }, "59 tasks": func(s *impl.Suite) { *s = alikeSuite(59, 1) }, "60 tasks": func(s *impl.Suite) { *s = alikeSuite(60, 60) }, "60 in a chain": func(s *impl.Suite) { *s = chainSuite(60) },
		"1 limit": func(s *impl.Suite) { *s = alikeSuite(2, 1) }, "6 limits": func(s *impl.Suite) { s.Limits = []int64{1, 2, 3, 4, 5, 6} }, "the last limit's group": func(s *impl.Suite) { s.Limits = []int64{1, 2, 3, 4, 5, 6}; s.Tasks[6].Group = 6 }, "limits 1": func(s *impl.Suite) { s.Limits = []int64{1, 1} }, "limits 60": func(s *impl.Suite) { s.Limits = []int64{60, 60} },
		"empty After": func(s *impl.Suite) { s.Tasks[6].After = []int64{} }, "After of all": func(s *impl.Suite) { s.Tasks[6].After = riseFrom(1, 6) }, "After of the one ahead": func(s *impl.Suite) { s.Tasks[6].After = []int64{6} }, "After of the first": func(s *impl.Suite) { s.Tasks[6].After = []int64{1} },
		"Late 0": func(s *impl.Suite) { s.Tasks[1].Late = 0 }, "Late 1": func(s *impl.Suite) { s.Tasks[1].Late = 1 }, "Late at its bound": func(s *impl.Suite) { s.Tasks[6].Late = clock }, "Most 1": func(s *impl.Suite) { s.Tasks[0].Most = 1 }, "Most 5": func(s *impl.Suite) { s.Tasks[6].Most = 5 },
	}
}

func wrongSuites() suiteEdits {
	const clock = impl.MaxClock
	wrong := suiteEdits{
		"nothing": func(s *impl.Suite) { *s = impl.Suite{} }, "no tasks": func(s *impl.Suite) { s.Tasks = nil }, "empty tasks": func(s *impl.Suite) { s.Tasks = []impl.Task{} }, "61 tasks": func(s *impl.Suite) { *s = alikeSuite(61, 60) }, "5000 tasks": func(s *impl.Suite) { *s = alikeSuite(5000, 60) }, "61 in a chain": func(s *impl.Suite) { *s = chainSuite(61) },
		"no limits": func(s *impl.Suite) { s.Limits = nil }, "a limit less": func(s *impl.Suite) { s.Limits = s.Limits[:1] }, "7 limits": func(s *impl.Suite) { s.Limits = times(7, int64(1)) }, "5000 limits": func(s *impl.Suite) { s.Limits = times(5000, int64(1)) },
		"a task that is zero": func(s *impl.Suite) { s.Tasks[3] = impl.Task{} }, "one more that is zero": func(s *impl.Suite) { s.Tasks = append(s.Tasks, impl.Task{}) },
	}
	for _, n := range []int64{0, -1, 61, math.MaxInt64, math.MinInt64} {
		wrong[fmt.Sprint("first limit ", n)] = func(s *impl.Suite) { s.Limits[0] = n }
		wrong[fmt.Sprint("last limit ", n)] = func(s *impl.Suite) { s.Limits[1] = n }
		wrong[fmt.Sprint("a limit of nobody ", n)] = func(s *impl.Suite) { s.Limits = append(s.Limits, n) }
	}
	for _, place := range []int{0, 3, 6} {
		edit := func(name string, n int64, change func(task *impl.Task)) {
			wrong[fmt.Sprint("task ", place+1, ": ", name, " ", n)] = func(s *impl.Suite) { change(&s.Tasks[place]) }
		}
		for _, n := range []int64{0, -1, 3, 7, math.MaxInt64, math.MinInt64} {
			edit("Group", n, func(task *impl.Task) { task.Group = n })
		}
		for _, n := range []int64{-1, clock + 1, math.MaxInt64, math.MinInt64} {
			edit("Late", n, func(task *impl.Task) { task.Late = n })
		}
		for _, n := range []int64{0, -1, 6, math.MaxInt64, math.MinInt64} {
			edit("Most", n, func(task *impl.Task) { task.Most = n })
		}
		for _, n := range []int64{0, -1, int64(place) + 1, int64(place) + 2, 8, 60, math.MaxInt64, math.MinInt64} {
			edit("After", n, func(task *impl.Task) { task.After = []int64{n} })
			edit("a last After", n, func(task *impl.Task) { task.After = append(riseFrom(1, place), n) })
		}
	}
	for i, after := range [][]int64{{2, 1}, {1, 1}, {1, 2, 2}, {1, 3, 2}, {0, 1}, {-1, 1}, {1, 2, 7}, {2, 3, 1}, {6, 6}, {7}, {8}, times(60, int64(1)), riseFrom(1, 60), riseFrom(0, 7), {math.MaxInt64, 1}, {1, math.MinInt64}} {
		wrong[fmt.Sprint("After ", i)] = func(s *impl.Suite) { s.Tasks[6].After = after }
	}
	return wrong
}

func TestSuiteEdges(t *testing.T) {
	for name, edit := range rightSuites() {
		s := busyRun().Suite
		edit(&s)
		want := impl.Run{Suite: s, Tasks: make([]impl.Job, len(s.Tasks))}
		if r, ok := impl.NewRun(s); !impl.SuiteOk(s) || !ok || !sameRun(r, want) {
			t.Errorf("%s: %v, %v", name, r, ok)
		}
	}
	for name, edit := range wrongSuites() {
		s := busyRun().Suite
		edit(&s)
		if r, ok := impl.NewRun(s); impl.SuiteOk(s) || ok || !sameRun(r, impl.Run{}) {
			t.Errorf("%s: %v, %v", name, r, ok)
		}
		refusesRun(t, name, impl.Run{Suite: s, Tasks: make([]impl.Job, len(s.Tasks))})
		refusesRun(t, name+", behind", impl.Run{Suite: s, Now: 10, Tasks: busyRun().Tasks})
		refusesRun(t, name+", without jobs", impl.Run{Suite: s})
	}
}

// All short lists of After: right are those that rise, of tasks ahead.
func TestAllShortAfters(t *testing.T) {
	for place := range 4 {
		for count := range 4 {
			for _, after := range allRows(count, -1, 0, 1, 2, 3, 4, 5) {
				s := alikeSuite(4, 1)
				s.Tasks[place].After = after
				want := true
				for i, ahead := range after {
					want = want && ahead > 0 && ahead < int64(place)+1 && (i == 0 || ahead > after[i-1])
				}
				if got := impl.SuiteOk(s); got != want {
					t.Fatalf("task %d behind %v: %v", place+1, after, got)
				}
			}
		}
	}
}

func refusesRun(t *testing.T, name string, r impl.Run) {
	t.Helper()
	if got, l := impl.StartTasks(r); !sameRun(got, impl.Run{}) || len(l) != 0 {
		t.Errorf("%s: StartTasks: %v, %v", name, got, l)
	}
	for task := int64(-1); task <= 9; task++ {
		for _, well := range []bool{true, false} {
			if got, ok := impl.Report(r, task, well); !sameRun(got, impl.Run{}) || ok {
				t.Errorf("%s: Report of %d: %v, %v", name, task, got, ok)
			}
		}
	}
	if got := impl.CrashRun(r); !sameRun(got, impl.Run{}) {
		t.Errorf("%s: CrashRun: %v", name, got)
	}
	for _, n := range []int64{-1, 0, 1, 100, math.MaxInt64} {
		if got, l := impl.TickRun(r, n); !sameRun(got, impl.Run{}) || len(l) != 0 {
			t.Errorf("%s: TickRun by %d: %v, %v", name, n, got, l)
		}
	}
	if l := impl.Stuck(r); len(l) != 0 {
		t.Errorf("%s: Stuck: %v", name, l)
	}
}

type runEdits map[string]func(r *impl.Run)

func rightRuns() runEdits {
	const clock = impl.MaxClock
	return runEdits{
		"as it is": func(r *impl.Run) {}, "new": func(r *impl.Run) { *r, _ = impl.NewRun(r.Suite) }, "Now 0": func(r *impl.Run) { r.Now = 0 }, "Now at its bound": func(r *impl.Run) { r.Now = clock },
		"running at its Most": func(r *impl.Run) { r.Tasks[1].Tries = 3 }, "running with one try": func(r *impl.Run) { r.Tasks[1].Tries = 1 }, "done at its Most": func(r *impl.Run) { r.Tasks[0].Tries = 2 }, "waiting one below its Most": func(r *impl.Run) { r.Tasks[3].Tries = 1 }, "waiting with no try": func(r *impl.Run) { r.Tasks[3].Tries = 0 },
		"a group just full": func(r *impl.Run) { r.Tasks[3] = jobOf(impl.JRun, 1) }, "nothing runs": func(r *impl.Run) { r.Tasks[1], r.Tasks[4] = jobOf(impl.JWait, 2), jobOf(impl.JLost, 5) }, "all done": func(r *impl.Run) {
			for i, task := range r.Suite.Tasks {
				r.Tasks[i] = jobOf(impl.JDone, task.Most)
			}
		}, "all waiting": func(r *impl.Run) {
			for i, task := range r.Suite.Tasks {
				r.Tasks[i] = jobOf(impl.JWait, task.Most-1)
			}
		}, "60 of 60 run": func(r *impl.Run) {
			*r = impl.Run{Suite: alikeSuite(60, 60), Tasks: times(60, jobOf(impl.JRun, 1))}
		}, "1 of 60 runs": func(r *impl.Run) {
			*r = impl.Run{Suite: alikeSuite(60, 1), Tasks: append(times(59, jobOf(impl.JWait, 0)), jobOf(impl.JRun, 1))}
		}, "60 lost": func(r *impl.Run) {
			*r = impl.Run{Suite: alikeSuite(60, 1), Tasks: times(60, jobOf(impl.JLost, 1))}
		}, "a chain that runs": func(r *impl.Run) {
			*r = impl.Run{Suite: chainSuite(60), Tasks: append(times(58, jobOf(impl.JDone, 1)), jobOf(impl.JRun, 2), jobOf(impl.JWait, 0))}
		}, "a chain whose first is lost": func(r *impl.Run) {
			*r = impl.Run{Suite: chainSuite(60), Tasks: append([]impl.Job{jobOf(impl.JLost, 2)}, times(59, jobOf(impl.JWait, 1))...)}
		},
	}
}

func wrongRuns() runEdits {
	const clock = impl.MaxClock
	wrong := runEdits{
		"nothing": func(r *impl.Run) { *r = impl.Run{} }, "no jobs": func(r *impl.Run) { r.Tasks = nil }, "a job less": func(r *impl.Run) { r.Tasks = r.Tasks[:6] }, "a job more": func(r *impl.Run) { r.Tasks = append(r.Tasks, impl.Job{}) }, "a task less": func(r *impl.Run) { r.Suite.Tasks = r.Suite.Tasks[:6] }, "a task more": func(r *impl.Run) { r.Suite.Tasks = append(r.Suite.Tasks, taskOf(1, 0, 1)) }, "5000 jobs": func(r *impl.Run) { r.Tasks = make([]impl.Job, 5000) },
		"done with no try": func(r *impl.Run) { r.Tasks[0].Tries = 0 }, "done above its Most": func(r *impl.Run) { r.Tasks[0].Tries = 3 }, "running with no try": func(r *impl.Run) { r.Tasks[1].Tries = 0 }, "running above its Most": func(r *impl.Run) { r.Tasks[1].Tries = 4 }, "lost with no try": func(r *impl.Run) { r.Tasks[2].Tries = 0 }, "lost above its Most": func(r *impl.Run) { r.Tasks[2].Tries = 2 }, "waiting at its Most": func(r *impl.Run) { r.Tasks[3].Tries = 2 }, "waiting above its Most": func(r *impl.Run) { r.Tasks[3].Tries = 3 }, "waiting at a Most of 1": func(r *impl.Run) { r.Tasks[5].Tries = 1 },
		"lost below its Most": func(r *impl.Run) { r.Tasks[4] = jobOf(impl.JLost, 4) }, "lost with one try": func(r *impl.Run) { r.Tasks[4] = jobOf(impl.JLost, 1) },
		"the first one waits": func(r *impl.Run) { r.Tasks[0] = jobOf(impl.JWait, 1) }, "the first one runs": func(r *impl.Run) { r.Suite.Limits[0] = 2; r.Tasks[0].How = impl.JRun }, "the first one is lost": func(r *impl.Run) { r.Tasks[0] = jobOf(impl.JLost, 2) },
		"done behind a lost one": func(r *impl.Run) { r.Tasks[3], r.Tasks[5] = jobOf(impl.JDone, 1), jobOf(impl.JDone, 1) }, "running behind one that waits": func(r *impl.Run) {
			r.Suite.Limits[1] = 60
			r.Tasks[2].How, r.Tasks[5] = impl.JDone, jobOf(impl.JRun, 1)
		}, "lost behind one that runs": func(r *impl.Run) { r.Suite.Tasks[6].After = []int64{2}; r.Tasks[6] = jobOf(impl.JLost, 4) }, "done behind one that waits": func(r *impl.Run) { r.Tasks[6] = jobOf(impl.JDone, 1) },
		"one more than a group's limit of 1": func(r *impl.Run) { r.Suite.Tasks[6].After = nil; r.Tasks[6] = jobOf(impl.JRun, 1) }, "one more than a group's limit of 2": func(r *impl.Run) {
			r.Tasks[3], r.Suite.Tasks[5].After, r.Tasks[5] = jobOf(impl.JRun, 1), nil, jobOf(impl.JRun, 1)
		}, "60 of 59 run": func(r *impl.Run) {
			*r = impl.Run{Suite: alikeSuite(60, 59), Tasks: times(60, jobOf(impl.JRun, 1))}
		}, "a chain that runs at once": func(r *impl.Run) {
			*r = impl.Run{Suite: chainSuite(60), Tasks: times(60, jobOf(impl.JRun, 1))}
		},
	}
	for _, n := range []int64{-1, clock + 1, math.MaxInt64, math.MinInt64} {
		wrong[fmt.Sprint("Now ", n)] = func(r *impl.Run) { r.Now = n }
	}
	for i := range busyRun().Tasks {
		for _, n := range []int64{-1, 4, math.MaxInt64, math.MinInt64} {
			wrong[fmt.Sprint("How ", n, " of ", i+1)] = func(r *impl.Run) { r.Tasks[i].How = n }
		}
		for _, n := range []int64{-1, 6, math.MaxInt64, math.MinInt64} {
			wrong[fmt.Sprint("Tries ", n, " of ", i+1)] = func(r *impl.Run) { r.Tasks[i].Tries = n }
		}
	}
	return wrong
}

func TestWrongRuns(t *testing.T) {
	for name, edit := range wrongRuns() {
		r := busyRun()
		edit(&r)
		if rightRunBySteps(r) {
			t.Errorf("%s is right", name)
		}
		refusesRun(t, name, r)
	}
}

func TestRightRuns(t *testing.T) {
	for name, edit := range rightRuns() {
		r := busyRun()
		edit(&r)
		if !rightRunBySteps(r) {
			t.Errorf("%s is not right", name)
		}
		holdsRun(t, r)
		if got, l := impl.TickRun(r, 0); !sameRun(got, r) || len(l) != 0 {
			t.Errorf("%s: TickRun by 0: %v, %v", name, got, l)
		}
	}
}

// rightRunBySteps asks each sentence of the chapter by itself. (The suite is asked for by NewRun.)
func rightRunBySteps(r impl.Run) bool {
	if _, ok := impl.NewRun(r.Suite); !ok || r.Now < 0 || r.Now > 1000000000000 || len(r.Tasks) != len(r.Suite.Tasks) {
		return false
	}
	running := map[int64]int64{}
	for i, job := range r.Tasks {
		task := r.Suite.Tasks[i]
		waits, runs, lost := job.How == 0, job.How == 1, job.How == 3
		if job.How < 0 || job.How > 3 || job.Tries < 0 || job.Tries > task.Most || !waits && job.Tries == 0 || lost && job.Tries != task.Most || waits && job.Tries == task.Most {
			return false
		}
		if !waits && slices.ContainsFunc(task.After, func(k int64) bool { return r.Tasks[k-1].How != 2 }) {
			return false
		}
		if runs {
			running[task.Group]++
		}
	}
	for group, count := range running {
		if count > r.Suite.Limits[group-1] {
			return false
		}
	}
	return true
}

// startBySteps counts who runs anew for each task.
func startBySteps(r impl.Run) (impl.Run, []int64) {
	r = copyOfRun(r)
	var started []int64
	for i, task := range r.Suite.Tasks {
		running, behind := int64(0), true
		for k, other := range r.Suite.Tasks {
			if other.Group == task.Group && r.Tasks[k].How == impl.JRun {
				running++
			}
			if slices.Contains(task.After, int64(k)+1) && r.Tasks[k].How != impl.JDone {
				behind = false
			}
		}
		if r.Tasks[i].How == impl.JWait && behind && running < r.Suite.Limits[task.Group-1] {
			r.Tasks[i] = jobOf(impl.JRun, r.Tasks[i].Tries+1)
			started = append(started, int64(i)+1)
		}
	}
	return r, started
}

func reportBySteps(r impl.Run, task int64, well bool) (impl.Run, bool) {
	r = copyOfRun(r)
	for i := range r.Tasks {
		job := &r.Tasks[i]
		if int64(i)+1 != task || job.How != impl.JRun {
			continue
		}
		job.How = impl.JWait
		if job.Tries == r.Suite.Tasks[i].Most {
			job.How = impl.JLost
		}
		if well {
			job.How = impl.JDone
		}
		return r, true
	}
	return r, false
}

func crashBySteps(r impl.Run) impl.Run {
	r = copyOfRun(r)
	for i, job := range r.Tasks {
		if job.How == impl.JRun {
			r.Tasks[i] = jobOf(impl.JWait, job.Tries-1)
		}
	}
	return r
}

func tickBySteps(r impl.Run, n int64) (impl.Run, []int64) {
	r = copyOfRun(r)
	was := r.Now
	if n > 1000000000000-was {
		r.Now = 1000000000000
	} else {
		r.Now += n
	}
	var late []int64
	for i, task := range r.Suite.Tasks {
		if task.Late > 0 && task.Late >= was && task.Late < r.Now && r.Tasks[i].How != impl.JDone {
			late = append(late, int64(i)+1)
		}
	}
	return r, late
}

// stuckBySteps has all go well from then on: what is not done at the end can never be.
func stuckBySteps(r impl.Run) []int64 {
	for {
		next, _ := startBySteps(r)
		list := running(next)
		if len(list) == 0 {
			break
		}
		for _, number := range list {
			next.Tasks[number-1].How = impl.JDone
		}
		r = next
	}
	var stuck []int64
	for i, job := range r.Tasks {
		if job.How != impl.JDone {
			stuck = append(stuck, int64(i)+1)
		}
	}
	return stuck
}

// holdsRun holds all that is answered to a right run against the second way, and asks that what comes is right.
func holdsRun(t *testing.T, r impl.Run) {
	t.Helper()
	startIs(t, r)
	for task := int64(-1); task <= int64(len(r.Tasks))+1; task++ {
		reportIs(t, r, task, true)
		reportIs(t, r, task, false)
	}
	for _, task := range []int64{math.MaxInt64, math.MinInt64, 60, 61, 1 << 32, 1<<32 + 1} {
		reportIs(t, r, task, task%2 == 0)
	}
	crashIs(t, r)
	for _, n := range []int64{0, 1, 9, 10, 11, 20, 50, 51, impl.MaxClock, math.MaxInt64} {
		tickIs(t, r, n)
	}
	for _, n := range []int64{-1, -10, math.MinInt64} {
		if got, l := impl.TickRun(r, n); !sameRun(got, impl.Run{}) || len(l) != 0 {
			t.Fatalf("TickRun(%v, %d) = %v, %v", r, n, got, l)
		}
	}
	stuckIs(t, r)
}

func startIs(t *testing.T, r impl.Run) (impl.Run, []int64) {
	t.Helper()
	want, wanted := startBySteps(r)
	got, l := impl.StartTasks(r)
	if !sameRun(got, want) || !slices.Equal(l, wanted) || !rightRunBySteps(got) {
		t.Fatalf("StartTasks(%v) = %v, %v and not %v, %v", r, got, l, want, wanted)
	}
	return got, l
}

func reportIs(t *testing.T, r impl.Run, task int64, well bool) (impl.Run, bool) {
	t.Helper()
	want, wanted := reportBySteps(r, task, well)
	got, ok := impl.Report(r, task, well)
	if !sameRun(got, want) || ok != wanted || !rightRunBySteps(got) {
		t.Fatalf("Report(%v, %d, %v) = %v, %v and not %v, %v", r, task, well, got, ok, want, wanted)
	}
	return got, ok
}

func crashIs(t *testing.T, r impl.Run) impl.Run {
	t.Helper()
	got, want := impl.CrashRun(r), crashBySteps(r)
	if !sameRun(got, want) || !rightRunBySteps(got) {
		t.Fatalf("CrashRun(%v) = %v and not %v", r, got, want)
	}
	return got
}

func tickIs(t *testing.T, r impl.Run, n int64) (impl.Run, []int64) {
	t.Helper()
	want, wanted := tickBySteps(r, n)
	got, l := impl.TickRun(r, n)
	if !sameRun(got, want) || !slices.Equal(l, wanted) || !rightRunBySteps(got) {
		t.Fatalf("TickRun(%v, %d) = %v, %v and not %v, %v", r, n, got, l, want, wanted)
	}
	return got, l
}

func stuckIs(t *testing.T, r impl.Run) []int64 {
	t.Helper()
	got, want := impl.Stuck(r), stuckBySteps(r)
	if !slices.Equal(got, want) {
		t.Fatalf("Stuck(%v) = %v and not %v", r, got, want)
	}
	return got
}

func TestStartsByHand(t *testing.T) {
	// Four are ready of a group of two, one of a group of its own; the sixth comes behind the first.
	s := impl.Suite{Limits: []int64{2, 1}, Tasks: []impl.Task{taskOf(1, 0, 2), taskOf(1, 0, 1), taskOf(2, 0, 1), taskOf(1, 0, 1), taskOf(1, 0, 1), taskOf(1, 0, 1, 1)}}
	r, _ := impl.NewRun(s)
	for _, step := range []struct {
		name    string
		do      func()
		started []int64
		jobs    []impl.Job
	}{
		{"a group gets full on the way", func() {}, []int64{1, 2, 3}, []impl.Job{jobOf(1, 1), jobOf(1, 1), jobOf(1, 1), {}, {}, {}}},
		{"all are full", func() {}, nil, []impl.Job{jobOf(1, 1), jobOf(1, 1), jobOf(1, 1), {}, {}, {}}},
		{"the first fails, and is ahead of the others again", func() { r, _ = impl.Report(r, 1, false) }, []int64{1}, []impl.Job{jobOf(1, 2), jobOf(1, 1), jobOf(1, 1), {}, {}, {}}},
		{"the second is done", func() { r, _ = impl.Report(r, 2, true) }, []int64{4}, []impl.Job{jobOf(1, 2), jobOf(2, 1), jobOf(1, 1), jobOf(1, 1), {}, {}}},
		{"all that run crash", func() { r = impl.CrashRun(r) }, []int64{1, 3, 4}, []impl.Job{jobOf(1, 2), jobOf(2, 1), jobOf(1, 1), jobOf(1, 1), {}, {}}},
		{"the first is done: the fifth is ahead of the sixth", func() { r, _ = impl.Report(r, 1, true) }, []int64{5}, []impl.Job{jobOf(2, 2), jobOf(2, 1), jobOf(1, 1), jobOf(1, 1), jobOf(1, 1), {}}},
		{"the fifth is lost", func() { r, _ = impl.Report(r, 5, false) }, []int64{6}, []impl.Job{jobOf(2, 2), jobOf(2, 1), jobOf(1, 1), jobOf(1, 1), jobOf(3, 1), jobOf(1, 1)}},
		{"nothing is left to start", func() { r, _ = impl.Report(r, 3, true); r, _ = impl.Report(r, 4, true) }, nil, []impl.Job{jobOf(2, 2), jobOf(2, 1), jobOf(2, 1), jobOf(2, 1), jobOf(3, 1), jobOf(1, 1)}},
	} {
		step.do()
		var started []int64
		if r, started = impl.StartTasks(r); !slices.Equal(started, step.started) || !slices.Equal(r.Tasks, step.jobs) || !sameRun(r, impl.Run{Suite: s, Tasks: step.jobs}) {
			t.Fatalf("%s: %v, %v", step.name, started, r.Tasks)
		}
	}
	full, _ := impl.NewRun(alikeSuite(60, 60))
	if r, l := impl.StartTasks(full); !slices.Equal(l, riseFrom(1, 60)) || !slices.Equal(r.Tasks, times(60, jobOf(1, 1))) {
		t.Error("60 at once", l)
	}
	narrow, _ := impl.NewRun(alikeSuite(60, 59))
	if _, l := impl.StartTasks(narrow); !slices.Equal(l, riseFrom(1, 59)) {
		t.Error("59 at once", l)
	}
}

func TestReportsByHand(t *testing.T) {
	for _, c := range []struct {
		task     int64
		well, ok bool
		job      impl.Job
	}{
		{2, true, true, jobOf(impl.JDone, 2)}, {2, false, true, jobOf(impl.JWait, 2)}, {5, true, true, jobOf(impl.JDone, 5)}, {5, false, true, jobOf(impl.JLost, 5)},
		// Those that are done, lost or wait, with tries and without.
		{1, true, false, jobOf(impl.JDone, 1)}, {1, false, false, jobOf(impl.JDone, 1)}, {3, true, false, jobOf(impl.JLost, 1)}, {3, false, false, jobOf(impl.JLost, 1)}, {4, true, false, jobOf(impl.JWait, 1)}, {4, false, false, jobOf(impl.JWait, 1)}, {6, true, false, jobOf(impl.JWait, 0)}, {7, true, false, jobOf(impl.JWait, 3)}, {7, false, false, jobOf(impl.JWait, 3)},
		// Those that are none.
		{0, true, false, impl.Job{}}, {0, false, false, impl.Job{}}, {-1, true, false, impl.Job{}}, {8, true, false, impl.Job{}}, {8, false, false, impl.Job{}}, {61, true, false, impl.Job{}}, {math.MaxInt64, true, false, impl.Job{}}, {math.MinInt64, true, false, impl.Job{}}, {1<<32 + 2, true, false, impl.Job{}},
	} {
		want := busyRun()
		if c.task >= 1 && c.task <= 7 {
			want.Tasks[c.task-1] = c.job
		}
		if got, ok := impl.Report(busyRun(), c.task, c.well); ok != c.ok || !sameRun(got, want) {
			t.Errorf("Report of %d, %v: %v, %v", c.task, c.well, got.Tasks, ok)
		}
		reportIs(t, busyRun(), c.task, c.well)
	}
	// The last of several runs.
	full := impl.Run{Suite: alikeSuite(60, 60), Tasks: times(60, jobOf(impl.JRun, 1))}
	if got, ok := impl.Report(full, 60, true); !ok || got.Tasks[59] != jobOf(impl.JDone, 1) || got.Tasks[58] != jobOf(impl.JRun, 1) {
		t.Error("the last one", got.Tasks, ok)
	}
	if got, ok := impl.Report(full, 61, true); ok || !sameRun(got, full) {
		t.Error("one behind the last", got.Tasks, ok)
	}
}

func TestCrashesByHand(t *testing.T) {
	want := busyRun()
	want.Tasks[1], want.Tasks[4] = jobOf(impl.JWait, 1), jobOf(impl.JWait, 4)
	got := impl.CrashRun(busyRun())
	if !sameRun(got, want) {
		t.Error("several", got.Tasks)
	}
	if again := impl.CrashRun(got); !sameRun(again, want) {
		t.Error("none", again.Tasks)
	}
	// Behind a start it crashes again, and no try is spent.
	for range 7 {
		started, l := startIs(t, got)
		if len(l) != 3 {
			t.Fatal(l)
		}
		if again := crashIs(t, started); !sameRun(again, want) {
			t.Fatal("again behind a start", again.Tasks)
		}
	}
}

func TestTicksByHand(t *testing.T) {
	const clock = impl.MaxClock
	// The busy run is at 10; its tasks are late at 0, 50, 40, 30, 20, 10, 60, and the first is done.
	for _, c := range []struct {
		now, n int64
		is     int64
		late   []int64
	}{
		{10, 0, 10, nil}, {10, 1, 11, []int64{6}}, {10, 10, 20, []int64{6}}, {10, 11, 21, []int64{5, 6}}, {10, 50, 60, []int64{2, 3, 4, 5, 6}}, {10, 51, 61, []int64{2, 3, 4, 5, 6, 7}}, {10, 1000, 1010, []int64{2, 3, 4, 5, 6, 7}}, {9, 1, 10, nil}, {9, 2, 11, []int64{6}}, {11, 9, 20, nil}, {11, 10, 21, []int64{5}}, {0, 10, 10, nil}, {0, 11, 11, []int64{6}}, {0, 1, 1, nil}, {60, 1, 61, []int64{7}}, {61, 1, 62, nil}, {60, 0, 60, nil}, {61, 1000, 1061, nil},
		{10, clock - 11, clock - 1, []int64{2, 3, 4, 5, 6, 7}}, {10, clock - 10, clock, []int64{2, 3, 4, 5, 6, 7}}, {10, clock - 9, clock, []int64{2, 3, 4, 5, 6, 7}}, {10, clock, clock, []int64{2, 3, 4, 5, 6, 7}}, {10, math.MaxInt64, clock, []int64{2, 3, 4, 5, 6, 7}}, {55, math.MaxInt64, clock, []int64{7}}, {clock, 0, clock, nil}, {clock, 1, clock, nil}, {clock, math.MaxInt64, clock, nil}, {clock - 1, 1, clock, nil}, {clock - 1, 2, clock, nil},
	} {
		r := busyRun()
		r.Now = c.now
		want := busyRun()
		want.Now = c.is
		if got, late := impl.TickRun(r, c.n); !sameRun(got, want) || !slices.Equal(late, c.late) {
			t.Errorf("%d more than %d: %v, %v", c.n, c.now, got.Now, late)
		}
		for _, n := range []int64{-1, math.MinInt64} {
			if got, late := impl.TickRun(r, n); !sameRun(got, impl.Run{}) || len(late) != 0 {
				t.Errorf("%d more than %d: %v, %v", n, c.now, got, late)
			}
		}
	}
}

// One task: whether it is told, by how it stands and by its Late.
func TestOneLateTask(t *testing.T) {
	for _, job := range []impl.Job{jobOf(impl.JWait, 0), jobOf(impl.JWait, 1), jobOf(impl.JRun, 1), jobOf(impl.JRun, 2), jobOf(impl.JDone, 1), jobOf(impl.JDone, 2), jobOf(impl.JLost, 2)} {
		for _, now := range []int64{0, 1, 100, impl.MaxClock - 1, impl.MaxClock} {
			for _, n := range []int64{0, 1, 2, 50} {
				for _, late := range []int64{0, 1, now - 1, now, now + 1, now + n - 1, now + n, now + n + 1, impl.MaxClock} {
					if late < 0 || late > impl.MaxClock {
						continue
					}
					r := impl.Run{Suite: impl.Suite{Tasks: []impl.Task{taskOf(1, late, 2)}, Limits: []int64{1}}, Now: now, Tasks: []impl.Job{job}}
					is := min(now+n, impl.MaxClock)
					told := job.How != impl.JDone && late != 0 && late >= now && late <= is-1
					if got, l := impl.TickRun(r, n); got.Now != is || told && !slices.Equal(l, []int64{1}) || !told && len(l) != 0 {
						t.Errorf("%v, Late %d, from %d by %d: %v, %v", job, late, now, n, got.Now, l)
					}
				}
			}
		}
	}
}

func TestStuckByHand(t *testing.T) {
	chain := impl.Run{Suite: chainSuite(60), Tasks: make([]impl.Job, 60)}
	for name, c := range map[string]struct {
		edit func(r *impl.Run)
		want []int64
	}{
		"one behind a lost one, and one behind that": {func(r *impl.Run) {}, []int64{3, 6, 7}},
		"another behind one that is behind":          {func(r *impl.Run) { r.Suite.Tasks[6].After = []int64{6} }, []int64{3, 6, 7}},
		"the last one behind others":                 {func(r *impl.Run) { r.Suite.Tasks[6].After = []int64{1, 2, 4, 5} }, []int64{3, 6}},
		"several lost":                               {func(r *impl.Run) { r.Tasks[1] = jobOf(impl.JLost, 3); r.Tasks[4] = jobOf(impl.JLost, 5) }, []int64{2, 3, 5, 6, 7}},
		"none lost":                                  {func(r *impl.Run) { r.Tasks[2].How = impl.JDone }, nil},
		"a chain that is new":                        {func(r *impl.Run) { *r = copyOfRun(chain) }, nil},
		"a chain whose first is lost":                {func(r *impl.Run) { *r = copyOfRun(chain); r.Tasks[0] = jobOf(impl.JLost, 2) }, riseFrom(1, 60)},
		"a chain whose last is lost": {func(r *impl.Run) {
			*r = copyOfRun(chain)
			r.Tasks = append(times(59, jobOf(impl.JDone, 2)), jobOf(impl.JLost, 2))
		}, []int64{60}},
		"a chain of single ties": {func(r *impl.Run) {
			*r = copyOfRun(chain)
			for i := range r.Suite.Tasks {
				r.Suite.Tasks[i].After = nil
				if i > 0 {
					r.Suite.Tasks[i].After = []int64{int64(i)}
				}
			}
			r.Tasks[0], r.Tasks[1] = jobOf(impl.JDone, 1), jobOf(impl.JLost, 2)
		}, riseFrom(2, 59)},
		"all lost": {func(r *impl.Run) {
			*r = impl.Run{Suite: alikeSuite(60, 1), Tasks: times(60, jobOf(impl.JLost, 1))}
		}, riseFrom(1, 60)},
	} {
		r := busyRun()
		c.edit(&r)
		if got := stuckIs(t, r); !slices.Equal(got, c.want) {
			t.Errorf("%s: %v", name, got)
		}
	}
}

// All jobs of small suites: which of them are right, and what is answered to those that are.
func TestAllSmallRuns(t *testing.T) {
	var jobs []impl.Job
	for how := int64(-1); how <= 4; how++ {
		for tries := int64(-1); tries <= 3; tries++ {
			jobs = append(jobs, jobOf(how, tries))
		}
	}
	right := 0
	for _, limits := range [][]int64{{1}, {2}, {1, 1}} {
		last := int64(len(limits))
		for ties := range 8 {
			s := impl.Suite{Limits: limits, Tasks: []impl.Task{taskOf(1, 10, 1), taskOf(last, 20, 2), taskOf(1, 9, 2)}}
			for i, tie := range []struct{ task, ahead int64 }{{1, 1}, {2, 1}, {2, 2}} {
				if ties>>i&1 == 1 {
					s.Tasks[tie.task].After = append(s.Tasks[tie.task].After, tie.ahead)
				}
			}
			for _, a := range jobs {
				for _, b := range jobs {
					for _, c := range jobs {
						r := impl.Run{Suite: s, Now: 10, Tasks: []impl.Job{a, b, c}}
						if rightRunBySteps(r) {
							right++
							holdsRun(t, r)
						} else if !sameRun(impl.CrashRun(r), impl.Run{}) {
							t.Fatalf("%v is right", r)
						}
					}
				}
			}
		}
	}
	if right < 1000 {
		t.Error("only", right, "are right")
	}
}

func rolledSuite(d *dice) impl.Suite {
	var s impl.Suite
	for range 1 + d.below(6) {
		s.Limits = append(s.Limits, 1+d.below(3))
	}
	density := 1 + d.below(6)
	for i := range 1 + d.below(20) {
		task := taskOf(1+d.below(int64(len(s.Limits))), d.below(120), 1+d.below(5))
		for ahead := range i {
			if d.below(density) == 0 && d.below(3) > 0 {
				task.After = append(task.After, ahead+1)
			}
		}
		s.Tasks = append(s.Tasks, task)
	}
	return s
}

func running(r impl.Run) []int64 {
	var list []int64
	for i, job := range r.Tasks {
		if job.How == impl.JRun {
			list = append(list, int64(i)+1)
		}
	}
	return list
}

// ledger is what a suite's tasks have come to, told by the calls alone.
type ledger struct {
	done, failed, late map[int64]int
}

// Promise 24: each task is done once, behind all that it comes behind, within the limits, and each late one is told once, whatever crashes.
func (l ledger) keepsTwentyFour(t *testing.T, r impl.Run) {
	t.Helper()
	groups := map[int64]int64{}
	for i, job := range r.Tasks {
		task, number := r.Suite.Tasks[i], int64(i)+1
		if job.How == impl.JRun {
			groups[task.Group]++
		}
		if (job.How == impl.JDone) != (l.done[number] == 1) || l.done[number] > 1 || l.late[number] > 1 {
			t.Fatalf("task %d: %v, done %d times, late %d times", number, job, l.done[number], l.late[number])
		}
		// A crash spends no try.
		if (job.How == impl.JLost) != (l.failed[number] == int(task.Most)) || job.How == impl.JWait && l.failed[number] != int(job.Tries) {
			t.Fatalf("task %d: %v, failed %d times of %d", number, job, l.failed[number], task.Most)
		}
		for _, ahead := range task.After {
			if job.How != impl.JWait && l.done[ahead] != 1 {
				t.Fatalf("task %d: %v, and %d is not done", number, job, ahead)
			}
		}
	}
	for group, count := range groups {
		if count > r.Suite.Limits[group-1] {
			t.Fatalf("%d run in group %d", count, group)
		}
	}
}

func (l ledger) step(t *testing.T, d *dice, r impl.Run) impl.Run {
	t.Helper()
	switch d.below(8) {
	case 0, 1, 2:
		next, _ := startIs(t, r)
		return next
	case 3, 4, 5:
		task, well := d.below(int64(len(r.Tasks))+2), d.below(3) > 0
		if list := running(r); len(list) > 0 && d.below(3) > 0 {
			task = list[d.below(int64(len(list)))]
		}
		next, ok := reportIs(t, r, task, well)
		if ok && well {
			l.done[task]++
		} else if ok {
			l.failed[task]++
		}
		return next
	case 6:
		next, late := tickIs(t, r, d.below(15))
		for _, number := range late {
			l.late[number]++
		}
		return next
	}
	if d.below(2) == 0 {
		return crashIs(t, r)
	}
	return r
}

func TestRolledRuns(t *testing.T) {
	d := dice(2401)
	done, lost, late, stuck := 0, 0, 0, 0
	for range 500 {
		r, ok := impl.NewRun(rolledSuite(&d))
		if !ok {
			t.Fatal("no run")
		}
		l := ledger{map[int64]int{}, map[int64]int{}, map[int64]int{}}
		behind := map[int64]bool{}
		for range 40 + d.below(80) {
			was := r.Now
			r = l.step(t, &d, r)
			l.keepsTwentyFour(t, r)
			stuckIs(t, r)
			for i, task := range r.Suite.Tasks {
				if task.Late > 0 && was <= task.Late && task.Late < r.Now && r.Tasks[i].How != impl.JDone {
					behind[int64(i)+1] = true
				}
			}
		}
		for number, count := range l.late {
			if !behind[number] || count != 1 {
				t.Fatalf("task %d is told %d times", number, count)
			}
		}
		if len(l.late) != len(behind) {
			t.Fatal(l.late, "are told and not", behind)
		}
		done, lost, late, stuck = done+len(l.done), lost+len(l.failed), late+len(behind), stuck+len(impl.Stuck(r))
		l.goesWell(t, r)
	}
	if done < 1500 || lost < 800 || late < 1500 || stuck < 500 {
		t.Error(done, "done,", lost, "failed,", late, "late,", stuck, "stuck")
	}
}

// goesWell drives a run to its end: all is done once but what is stuck.
func (l ledger) goesWell(t *testing.T, r impl.Run) {
	t.Helper()
	stuck := impl.Stuck(r)
	for {
		r, _ = startIs(t, r)
		list := running(r)
		if len(list) == 0 {
			break
		}
		for _, number := range list {
			r, _ = reportIs(t, r, number, true)
			l.done[number]++
			l.keepsTwentyFour(t, r)
		}
	}
	for i, job := range r.Tasks {
		if number := int64(i) + 1; (job.How == impl.JDone) == slices.Contains(stuck, number) {
			t.Fatalf("task %d: %v, and stuck were %v", number, job, stuck)
		}
	}
	if again := impl.Stuck(r); !slices.Equal(again, stuck) {
		t.Fatalf("stuck: %v and not %v", again, stuck)
	}
}

// Promise 24: the order of reports does not matter.
func TestOrderOfReports(t *testing.T) {
	d := dice(2402)
	several := 0
	for range 400 {
		r, _ := impl.NewRun(rolledSuite(&d))
		l := ledger{map[int64]int{}, map[int64]int{}, map[int64]int{}}
		for range d.below(40) {
			r = l.step(t, &d, r)
		}
		r, _ = impl.StartTasks(r)
		type report struct {
			task int64
			well bool
		}
		var reports []report
		for _, number := range running(r) {
			reports = append(reports, report{number, d.below(2) == 0})
		}
		if len(reports) > 1 {
			several++
		}
		all := func(list []report) impl.Run {
			after := r
			for _, one := range list {
				after, _ = reportIs(t, after, one.task, one.well)
			}
			return after
		}
		want := all(reports)
		for range 4 {
			if got := all(shuffled(&d, reports)); !sameRun(got, want) {
				t.Fatalf("%v in another order: %v and not %v", reports, got, want)
			}
		}
		if len(reports) <= 4 {
			permuted(slices.Clone(reports), 0, func(list []report) {
				if got := all(list); !sameRun(got, want) {
					t.Fatalf("%v: %v and not %v", list, got, want)
				}
			})
		}
		next, started := impl.StartTasks(want)
		slices.Reverse(reports)
		if other, l := impl.StartTasks(all(reports)); !sameRun(other, next) || !slices.Equal(l, started) {
			t.Fatalf("%v backwards: %v and not %v", reports, l, started)
		}
	}
	if several < 150 {
		t.Error("only", several, "with several reports")
	}
}

// endsAs drives a run to its end: each task fails so often as is told, in whatever order they are reported, and now and then all crash.
func endsAs(t *testing.T, d *dice, s impl.Suite, fails []int64, crashes bool) impl.Run {
	t.Helper()
	r, _ := impl.NewRun(s)
	failed := map[int64]int64{}
	for range 100000 {
		var started []int64
		r, started = impl.StartTasks(r)
		list := running(r)
		if len(started) == 0 && len(list) == 0 {
			return r
		}
		if crashes && d.below(3) == 0 {
			r = impl.CrashRun(r)
			continue
		}
		number := list[d.below(int64(len(list)))]
		well := failed[number] == fails[number-1]
		if !well {
			failed[number]++
		}
		r, _ = impl.Report(r, number, well)
	}
	t.Fatalf("%v does not end", s)
	return r
}

// Promise 24: what comes out at the end hangs neither on the order of reports nor on what crashed.
func TestEndsOfRuns(t *testing.T) {
	d := dice(2403)
	lost := 0
	for range 300 {
		s := rolledSuite(&d)
		var fails []int64
		for _, task := range s.Tasks {
			fails = append(fails, d.below(task.Most+1)*d.below(2))
		}
		want := endsAs(t, &d, s, fails, false)
		for i, job := range want.Tasks {
			most, tied := s.Tasks[i].Most, slices.Contains(impl.Stuck(want), int64(i)+1)
			switch {
			case fails[i] == most && job != jobOf(impl.JLost, most) && job != impl.Job{}, job == impl.Job{} && !tied, job.How == impl.JDone && (job.Tries != fails[i]+1 || tied), job.How == impl.JRun:
				t.Fatalf("task %d of %v: %v, with %d fails", i+1, s, job, fails[i])
			case job.How == impl.JLost:
				lost++
			}
		}
		for range 5 {
			if got := endsAs(t, &d, s, fails, true); !sameRun(got, want) {
				t.Fatalf("%v with crashes: %v and not %v", s, got.Tasks, want.Tasks)
			}
		}
	}
	if lost < 200 {
		t.Error("only", lost, "are lost")
	}
}

// Promise 24: each late task is told once, however the time is split.
func TestSplitTicks(t *testing.T) {
	d := dice(2404)
	told := 0
	for range 1000 {
		r, _ := impl.NewRun(rolledSuite(&d))
		r, _ = impl.StartTasks(r)
		whole := d.below(200)
		at, want := tickIs(t, r, whole)
		seen := map[int64]int{}
		for r.Now < at.Now {
			var late []int64
			r, late = tickIs(t, r, min(d.below(30), at.Now-r.Now))
			for _, number := range late {
				seen[number]++
			}
		}
		if !sameRun(r, at) || !slices.Equal(slices.Sorted(maps.Keys(seen)), want) {
			t.Fatalf("%v split: %v and not %v", r, seen, want)
		}
		for number, count := range seen {
			if count != 1 {
				t.Fatalf("task %d is told %d times", number, count)
			}
		}
		told += len(want)
	}
	if told < 2000 {
		t.Error("only", told, "are told")
	}
}
