package job_test

import (
	"fmt"
	"math"
	"reflect"
	"slices"
	"strings"
	"testing"

	"flagstone/api"
	"flagstone/job"
)

type (
	Job   = job.Job
	frame = job.Frame
	texts = []string
)

// far are numbers as great and small as can be, and those beside zero and the limits.
var far = []int{math.MinInt, math.MinInt + 1, -1 << 32, -101, -100, -3, -2, -1, 0, 1, 2, 3, 4, 9, 10, 99, 100, 1 << 31, 1 << 32, math.MaxInt - 1, math.MaxInt}

// odd are texts of all kinds.
var odd = texts{"", "a", "a/b", "/", "..", ": error 2", "\x00", "\xff\xfe", "\n", "ü", strings.Repeat("x", 300)}

func roomy[T any](l []T) []T {
	if l == nil {
		return nil
	}
	return append(make([]T, 0, len(l)+3), l...)
}

// own tells j with memory of its own, and room behind the ends of its lists,
// that nobody may write to.
func own(j Job) Job {
	j.Names, j.Draws, j.Stack = roomy(j.Names), roomy(j.Draws), roomy(j.Stack)
	for i := range j.Stack {
		j.Stack[i].Names = roomy(j.Stack[i].Names)
	}
	return j
}

// whole tells all of j, what stands behind the ends of its lists, too.
func whole(j Job) string {
	s := fmt.Sprintf("%#v %#v %#v %#v", j, j.Names[:cap(j.Names)], j.Draws[:cap(j.Draws)], j.Stack[:cap(j.Stack)])
	for _, f := range j.Stack[:cap(j.Stack)] {
		s += fmt.Sprintf("%#v", f.Names[:cap(f.Names)])
	}
	return s
}

// plain tells j with nil for each list without elements, as both are alike.
func plain(j Job) Job {
	j.Names, j.Draws, j.Stack = flat(j.Names), flat(j.Draws), flat(j.Stack)
	for i := range j.Stack {
		j.Stack[i].Names = flat(j.Stack[i].Names)
	}
	return j
}

func flat[T any](l []T) []T {
	if len(l) == 0 {
		return nil
	}
	return append([]T{}, l...)
}

// alike is a second way to hold two jobs against each other.
func alike(a, b Job) bool { return reflect.DeepEqual(plain(a), plain(b)) }

// is holds a job against what it should be.
func is(t testing.TB, what string, got, want Job) {
	t.Helper()
	if !alike(got, want) {
		t.Errorf("%s =\n%+v, want\n%+v", what, got, want)
	}
}

// full has something in each field.
func full() Job {
	return Job{
		Kind: job.Clone, P: 2, Phase: 3, Fd: 4, N: 5, Mode: 6, Tries: 1, At: 1, Flags: 9,
		Path: "p", Path2: "q", Text: "t", Names: texts{"m", "n"},
		Stack: []frame{{Fd: 1, Name: "a", Names: texts{"b", "c"}}, {Fd: 2, Name: "b", Names: texts{"d", "e", "f"}}},
		Draws: []int{7, 8, 9}, Done: true, Exit: 5, Out: "o", E: api.ErrSpace,
	}
}

// some are jobs of all kinds, right ones or not.
func some() []Job {
	bare := Job{Stack: []frame{{}}}
	deep := full()
	for i := range 20 {
		deep.Stack = append(deep.Stack, frame{Fd: i, Name: "n", Names: make(texts, i)})
	}
	late := full()
	late.Stack[1].Names = nil
	return []Job{{}, job.New(job.Sweep, 1, nil), full(), bare, deep, late}
}

// P15.1: the kinds have the numbers that the chapter says.
func TestKinds(t *testing.T) {
	got := []int{job.Ensure, job.Sweep, job.Clone, job.Move, job.Ln, job.Temp, job.Lockfile, job.Flock, job.Publish}
	if want := []int{1, 2, 3, 4, 5, 6, 7, 8, 9}; !slices.Equal(got, want) {
		t.Error(got)
	}
}

// P15.1: New has what it is told, Fd is -1, and all else is zero.
func TestNew(t *testing.T) {
	for _, kind := range slices.Concat(far, []int{5, 6, 7, 8}) {
		for _, p := range far {
			for _, draws := range [][]int{nil, {}, {0}, {7, 8, 9}, far, make([]int, 200)} {
				is(t, "New", job.New(kind, p, draws), Job{Kind: kind, P: p, Fd: -1, Draws: draws})
			}
		}
	}
}

// P15.1: the draws of a job are its own.
func TestNewKeepsNothing(t *testing.T) {
	draws := roomy([]int{7, 8, 9})
	j := job.New(job.Temp, 2, draws[:2])
	draws[0], draws[2] = 1, 2
	is(t, "New", j, Job{Kind: job.Temp, P: 2, Fd: -1, Draws: []int{7, 8}})
	j.Draws[1] = 5
	_ = append(j.Draws, 6)
	if !slices.Equal(draws, []int{1, 8, 2}) {
		t.Error(draws)
	}
}

// turns are ways to make a full job another one, a field each.
func turns() map[string]func(*Job) {
	return map[string]func(*Job){
		"Kind": func(j *Job) { j.Kind++ }, "P": func(j *Job) { j.P++ }, "Phase": func(j *Job) { j.Phase++ },
		"Fd": func(j *Job) { j.Fd++ }, "N": func(j *Job) { j.N++ }, "Mode": func(j *Job) { j.Mode++ },
		"Tries": func(j *Job) { j.Tries++ }, "At": func(j *Job) { j.At++ }, "Flags": func(j *Job) { j.Flags++ },
		"Path": func(j *Job) { j.Path += "x" }, "Path2": func(j *Job) { j.Path2 += "x" }, "Text": func(j *Job) { j.Text = "" },
		"Done": func(j *Job) { j.Done = false }, "Exit": func(j *Job) { j.Exit++ }, "Out": func(j *Job) { j.Out += "x" },
		"E": func(j *Job) { j.E++ }, "names": func(j *Job) { j.Names = nil }, "a name": func(j *Job) { j.Names[1] = "x" },
		"one name less": func(j *Job) { j.Names = j.Names[:1] }, "one more": func(j *Job) { j.Names = append(j.Names, "") },
		"their order": func(j *Job) { slices.Reverse(j.Names) },
		"draws":       func(j *Job) { j.Draws = nil }, "a draw": func(j *Job) { j.Draws[2] = 0 },
		"one draw less": func(j *Job) { j.Draws = j.Draws[:2] }, "one draw more": func(j *Job) { j.Draws = append(j.Draws, 0) },
		"draws' order": func(j *Job) { slices.Reverse(j.Draws) },
		"stack":        func(j *Job) { j.Stack = nil }, "a frame less": func(j *Job) { j.Stack = j.Stack[:1] },
		"a frame more": func(j *Job) { j.Stack = append(j.Stack, frame{}) }, "frames' order": func(j *Job) { slices.Reverse(j.Stack) },
		"a frame's Fd":   func(j *Job) { j.Stack[0].Fd++ },
		"a frame's Name": func(j *Job) { j.Stack[1].Name = "a" }, "a frame's names": func(j *Job) { j.Stack[0].Names = nil },
		"a frame's name": func(j *Job) { j.Stack[1].Names[2] = "x" }, "a frame's first name": func(j *Job) { j.Stack[0].Names[0] = "" },
		"a frame's name more": func(j *Job) { j.Stack[0].Names = append(j.Stack[0].Names, "") },
	}
}

// P15.1: Same sees each field, and each element of each list, both ways round.
func TestSameSeesAll(t *testing.T) {
	for name, turn := range turns() {
		a, b := full(), full()
		if !job.Same(a, b) || !job.Same(b, a) {
			t.Fatal("two full jobs")
		}
		turn(&b)
		if job.Same(a, b) || job.Same(b, a) {
			t.Error(name)
		}
		if !job.Same(b, b) {
			t.Error(name, "and itself")
		}
	}
	if n := reflect.TypeFor[Job]().NumField(); n != 19 {
		t.Errorf("of a job's %d fields this test turns 19", n)
	}
}

// P15.1: lists without elements and nil lists are alike, and memory is no part of a job.
func TestSameAlike(t *testing.T) {
	a := full()
	a.Names, a.Draws, a.Stack[0].Names = nil, nil, nil
	b := own(full())
	b.Names, b.Draws, b.Stack[0].Names = texts{}, []int{}, texts{}
	if !job.Same(a, b) || !job.Same(b, a) {
		t.Error("lists without elements")
	}
	a.Stack, b.Stack = nil, []frame{}
	if !job.Same(a, b) || !job.Same(b, a) {
		t.Error("stacks without frames")
	}
	if !job.Same(full(), own(full())) || !job.Same(Job{}, Job{}) {
		t.Error("roomy lists")
	}
}

// P15.1: of some jobs each is the same as itself, and as no other one.
func TestSameOfSome(t *testing.T) {
	l := some()
	for i, a := range l {
		for k, b := range l {
			a, b := own(a), own(b)
			before := whole(a) + whole(b)
			if job.Same(a, b) != (i == k) {
				t.Error(i, k)
			}
			if whole(a)+whole(b) != before {
				t.Error(i, k, "changed")
			}
		}
	}
}

// P15.2: End says Done, Exit 0 and Out; all else is as it was, E, too.
func TestEnd(t *testing.T) {
	for _, j := range some() {
		for _, out := range odd {
			j := own(j)
			before := whole(j)
			want := j
			want.Done, want.Exit, want.Out = true, 0, out
			is(t, "End", job.End(j, out), want)
			if whole(j) != before {
				t.Error("changed", j)
			}
		}
	}
}

// P15.2: Fail says Done, Exit 1, E, and an Out of the path and E's number; all else is as it was.
func TestFail(t *testing.T) {
	for _, j := range some() {
		for _, path := range odd {
			for _, n := range far {
				j := own(j)
				before := whole(j)
				want := j
				want.Done, want.Exit, want.E = true, 1, api.Errno(n)
				want.Out = fmt.Sprintf("%s: error %d", path, n)
				is(t, "Fail", job.Fail(j, path, api.Errno(n)), want)
				if whole(j) != before {
					t.Error("changed", j)
				}
			}
		}
	}
}

// The chapter's example, and numbers of one digit and of two.
func TestFailExamples(t *testing.T) {
	for e, out := range map[api.Errno]string{
		api.ErrNone: "a: error 2", api.OK: "a: error 0", api.ErrLong: "a: error 9", api.ErrSpace: "a: error 10",
		api.ErrTries: "a: error 32", -7: "a: error -7",
	} {
		if got := job.Fail(Job{}, "a", e); got.Out != out || got.E != e {
			t.Errorf("%q of %d, want %q", got.Out, e, out)
		}
	}
}

// P15.2: Again has one more of Tries while these are below MaxTries, and fails else.
func TestAgain(t *testing.T) {
	for _, j := range some() {
		for _, tries := range far {
			for _, path := range odd {
				j := own(j)
				j.Tries = tries
				before := whole(j)
				want, may := j, tries < 3
				if may {
					want.Tries++
				} else {
					want.Done, want.Exit, want.E, want.Out = true, 1, 32, path+": error 32"
				}
				got, said := job.Again(j, path)
				if said != may {
					t.Errorf("Again with Tries %d says %v", tries, said)
				}
				is(t, "Again", got, want)
				if whole(j) != before {
					t.Error("changed", j)
				}
			}
		}
	}
}

// P15.2: a job tries three times more, and no fourth time; what failed stays so.
func TestAgainAndAgain(t *testing.T) {
	j := job.New(job.Sweep, 1, nil)
	for i := range 3 {
		k, may := job.Again(j, "p")
		if !may || k.Tries != i+1 || k.Done || k.Out != "" || k.E != 0 || k.Exit != 0 {
			t.Fatal(i, k, may)
		}
		j = k
	}
	for range 3 {
		k, may := job.Again(j, "p")
		if may || k.Tries != 3 || !k.Done || k.Out != "p: error 32" || k.E != api.ErrTries || k.Exit != 1 {
			t.Fatal(k, may)
		}
		j = k
	}
}

// drawn tells what Draw should, place by place.
func drawn(draws []int, at, n int) []int {
	var l []int
	for i := at; len(l) < n; i++ {
		x := 0
		if i >= 0 && i < len(draws) {
			x = draws[i]
		}
		l = append(l, x)
	}
	return l
}

// P15.3: Draw tells n draws from At on, 0 for each that there is not, and j with At n more.
func TestDraw(t *testing.T) {
	for _, long := range []int{0, 1, 2, 3, 99, 100, 101, 200} {
		draws := make([]int, long)
		for i := range draws {
			draws[i] = 1000 + i*i
		}
		for _, at := range []int{0, 1, 2, 3, 98, 99, 100, 101, 199, 200, 201, 1 << 32, math.MaxInt - 100, math.MaxInt - 1, math.MaxInt} {
			for n := -3; n <= 100; n++ {
				draws := roomy(draws)
				j := full()
				j.Draws, j.At = draws, at
				before := whole(j)
				got, k := job.Draw(j, n)
				if want := drawn(draws, at, n); !slices.Equal(got, want) {
					t.Fatalf("Draw %d at %d of %d = %v, want %v", n, at, long, got, want)
				}
				want := j
				want.At = at + n
				is(t, "Draw", k, want)
				if whole(j) != before {
					t.Fatal("changed", j)
				}
			}
		}
	}
}

// P15.3: below 1 there are no draws, and At goes back below 0.
func TestDrawNone(t *testing.T) {
	for _, n := range far {
		if n > 0 {
			continue
		}
		for _, at := range far {
			if at < 0 {
				continue
			}
			j := full()
			j.At = at
			want := full()
			want.At = at + n
			got, k := job.Draw(j, n)
			if len(got) != 0 {
				t.Error(n, got)
			}
			is(t, "Draw", k, want)
		}
	}
}

// P15.3: what is drawn is told in a list of its own.
func TestDrawKeepsNothing(t *testing.T) {
	j := own(full())
	before := whole(j)
	got, k := job.Draw(j, 2)
	got[0], got[1] = -1, -1
	_ = append(got, -1)
	again, _ := job.Draw(j, 2)
	if whole(j) != before || !slices.Equal(again, []int{8, 9}) || !slices.Equal(k.Draws, []int{7, 8, 9}) {
		t.Error(j, k, again)
	}
}

// P15.3: draws one by one are the draws at once.
func TestDrawBySteps(t *testing.T) {
	draws := []int{3, 1, 4, 1, 5, 9, 2, 6}
	for a := range 12 {
		for b := range 12 {
			j := job.New(job.Publish, 0, draws)
			first, k := job.Draw(j, a)
			then, l := job.Draw(k, b)
			once, m := job.Draw(j, a+b)
			if !slices.Equal(slices.Concat(first, then), once) || !job.Same(l, m) {
				t.Error(a, b, first, then, once)
			}
		}
	}
}

// P15.1 to P15.4: nothing panics, and all ends, at numbers of which nothing is said.
func TestNothingPanics(t *testing.T) {
	for _, a := range far {
		for _, b := range far {
			j := full()
			j.At, j.Tries, j.P, j.Kind, j.Fd = a, a, a, a, a
			got, k := job.Draw(j, b)
			if b <= 100 && len(got) != max(b, 0) || k.At != a+b {
				t.Error(a, b, len(got), k.At)
			}
			job.Again(k, "p")
			f := frame{Fd: b}
			if top, is := job.Top(job.Push(j, f)); !is || top.Fd != b {
				t.Error(a, b, top)
			}
		}
	}
}
