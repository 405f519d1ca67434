package sweep_test

import (
	"fmt"
	"math"
	"slices"
	"strings"
	"testing"

	"flagstone/api"
	"flagstone/job"
	"flagstone/kernel"
	"flagstone/sweep"
)

type (
	Job   = job.Job
	frame = job.Frame
	call  = kernel.Call
	reply = kernel.Reply
	texts = []string
)

// far are numbers as great and small as can be, and those beside zero and the limits.
var far = []int{math.MinInt, math.MinInt + 1, -1 << 32, -101, -64, -3, -2, -1, 0, 1, 2, 3, 4, 5, 6, 7, 8, 9, 63, 64, 100, 1 << 31, 1 << 32, math.MaxInt - 1, math.MaxInt}

// errnos are all errors, and numbers that are none.
var errnos = []api.Errno{0, 1, 2, 3, 4, 5, 6, 7, 8, 9, 10, 11, 12, 13, 14, 15, 30, 31, 32, 33, -1, 16, 99, math.MinInt, math.MaxInt}

func roomy[T any](l []T) []T {
	if l == nil {
		return nil
	}
	return append(make([]T, 0, len(l)+3), l...)
}

// own tells j with memory of its own, and room behind the ends of its lists,
// that nobody may write to.
func own(j Job) Job {
	j.Names, j.Draws, j.Stack = roomy(j.Names), roomy(j.Draws), roomy(j.Stack)
	for i := range j.Stack {
		j.Stack[i].Names = roomy(j.Stack[i].Names)
	}
	return j
}

// whole tells all of j, what stands behind the ends of its lists, too.
func whole(j Job) string {
	text := fmt.Sprintf("%#v %#v %#v %#v", j, j.Names[:cap(j.Names)], j.Draws[:cap(j.Draws)], j.Stack[:cap(j.Stack)])
	for _, f := range j.Stack {
		text += fmt.Sprintf(" %#v", f.Names[:cap(f.Names)])
	}
	return text
}

// is holds a job against what it should be.
func is(t testing.TB, what any, got, want Job) {
	t.Helper()
	if !job.Same(got, want) {
		t.Errorf("%+v:\n%+v, want\n%+v", what, got, want)
	}
}

// start is Start, held to what it must not do: to change its arguments, to keep
// their memory, or to tell another time something else.
func start(t testing.TB, p int, argv texts, draws []int) Job {
	t.Helper()
	a, d := roomy(argv), roomy(draws)
	handed := fmt.Sprintf("%q %v", a[:cap(a)], d[:cap(d)])
	j := sweep.Start(p, a, d)
	if now := fmt.Sprintf("%q %v", a[:cap(a)], d[:cap(d)]); now != handed {
		t.Errorf("Start changed %s to %s", handed, now)
	}
	was := whole(own(j))
	for i := range a {
		a[i] = "gone"
	}
	for i := range d {
		d[i] = -7
	}
	if whole(own(j)) != was {
		t.Errorf("Start(%q) kept what it was handed", argv)
	}
	is(t, argv, sweep.Start(p, argv, draws), j)
	return j
}

// tell is Tell, held to what it must not do.
func tell(t testing.TB, j Job, r reply) Job {
	t.Helper()
	o := own(j)
	was := whole(o)
	l := roomy(r.L)
	handed := r
	handed.L = l
	got := sweep.Tell(o, handed)
	if whole(o) != was || !slices.Equal(l, r.L) {
		t.Errorf("Tell(%+v, %+v) changed it", j, r)
	}
	told := whole(own(got))
	for i := range l {
		l[i] = "gone"
	}
	if whole(own(got)) != told {
		t.Errorf("Tell(%+v, %+v) kept the list", j, r)
	}
	is(t, j, sweep.Tell(j, r), got)
	return got
}

// ask is Ask, held to what it must not do.
func ask(t testing.TB, j Job) call {
	t.Helper()
	o := own(j)
	was := whole(o)
	c := sweep.Ask(o)
	if whole(o) != was {
		t.Errorf("Ask(%+v) changed it", j)
	}
	if sweep.Ask(j) != c {
		t.Errorf("Ask(%+v) told something else", j)
	}
	return c
}

// The calls, as the kernel numbers them and their flags.
func unlink(fd int, name string) call { return call{Kind: 7, Fd: fd, Path: name} }
func open(fd int, name string) call   { return call{Kind: 1, Fd: fd, Path: name, Flags: 1 + 32 + 64} }
func list(fd int) call                { return call{Kind: 13, Fd: fd} }
func shut(fd int) call                { return call{Kind: 2, Fd: fd} }
func rmdir(fd int, name string) call  { return call{Kind: 6, Fd: fd, Path: name} }

// dir is a frame of a directory, with names in it that are left.
func dir(fd int, name string, left ...string) frame {
	return frame{Fd: fd, Name: name, Names: left}
}

func not(e api.Errno) reply { return reply{E: e} }

// fresh is what Start has to tell, with p and without draws.
func fresh(path string, flags int) Job {
	return Job{Kind: job.Sweep, P: 3, Fd: -1, Flags: flags, Path: path}
}

// failed is j, failed.
func failed(j Job, path string, e int) Job {
	j.Done, j.Exit, j.E = true, 1, api.Errno(e)
	j.Out = fmt.Sprintf("%s: error %d", path, e)
	return j
}

func ended(j Job) Job {
	j.Done = true
	return j
}

// busy is a job with something in each field, so that all is seen that goes.
func busy(phase, flags int, stack ...frame) Job {
	return Job{
		Kind: job.Sweep, P: 2, Phase: phase, Fd: 4, N: 5, Mode: 6, Tries: 1, At: 1, Flags: flags,
		Path: "p/q", Path2: "r", Text: "t", Names: texts{"u"}, Stack: stack, Draws: []int{7, 8},
	}
}

// tried is j with one more of Tries.
func tried(j Job) Job {
	j.Tries++
	return j
}

// The chapter's example, and what comes of it.
func TestExample(t *testing.T) {
	j := start(t, 0, texts{"-r", "a"}, nil)
	for i, x := range []struct {
		c call
		r reply
	}{
		{unlink(-1, "a"), not(api.ErrIsDir)}, {open(-1, "a"), reply{N: 5}}, {list(5), reply{L: texts{"x"}}},
		{unlink(5, "x"), reply{}}, {shut(5), reply{}}, {rmdir(-1, "a"), reply{}},
	} {
		if c := ask(t, j); c != x.c || j.Done {
			t.Errorf("%d: %+v of %+v", i, c, j)
		}
		j = tell(t, j, x.r)
	}
	is(t, "-r a", j, Job{Kind: job.Sweep, Phase: 4, Fd: -1, Flags: 1, Path: "a", Done: true})
	if c := ask(t, j); c != (call{}) {
		t.Error(c)
	}
}

// P17.1: what Start tells of arguments that it takes.
func TestStart(t *testing.T) {
	long := strings.Repeat("a/", 49) + "bc" // of 100 bytes
	for _, x := range []struct {
		argv  texts
		path  string
		flags int
	}{
		{texts{"a"}, "a", 0},
		{texts{"a/b"}, "a/b", 0},
		{texts{"/a//b/"}, "/a//b/", 0},
		{texts{"/"}, "/", 0},
		{texts{"."}, ".", 0},
		{texts{".."}, "..", 0},
		{texts{long}, long, 0},
		{texts{"123456789012"}, "123456789012", 0},
		{texts{strings.Repeat("/", 100)}, strings.Repeat("/", 100), 0},
		{texts{"-r", "a"}, "a", 1},
		{texts{"-f", "a"}, "a", 2},
		{texts{"-rf", "a"}, "a", 3},
		{texts{"-fr", "a"}, "a", 3},
		{texts{"-f", "-r", "a"}, "a", 3},
		{texts{"-rrr", "-r", "a"}, "a", 1},
		{texts{"-ff", "-f", "a"}, "a", 2},
		{texts{"--", "-rf"}, "-rf", 0},
		{texts{"-r", "--", "-f"}, "-f", 1},
		{texts{"-f", "--", "--"}, "--", 2},
		{texts{"-"}, "-", 0},
		{texts{"-rf", "-"}, "-", 3},
		{texts{"r"}, "r", 0},
		{texts{"a\xffü b"}, "a\xffü b", 0},
	} {
		is(t, x.argv, start(t, 3, x.argv, nil), fresh(x.path, x.flags))
	}
}

// P17.1: what Start tells of arguments that it does not take, the error that is
// named first ahead; nothing else is set.
func TestStartFails(t *testing.T) {
	wide := strings.Repeat("x", 13)
	for _, x := range []struct {
		argv texts
		path string
		e    int
	}{
		{nil, "rm", 1},
		{texts{"-r"}, "rm", 1},
		{texts{"-f"}, "rm", 1},
		{texts{"--"}, "rm", 1},
		{texts{"a", "b"}, "rm", 1},
		{texts{"a", "-r"}, "rm", 1},
		{texts{"-", "a"}, "rm", 1},
		{texts{"--", "a", "b"}, "rm", 1},
		{texts{"", ""}, "rm", 1},
		{texts{wide, wide}, "rm", 1},
		{texts{"-R", "a"}, "rm", 30},
		{texts{"-F", "a"}, "rm", 30},
		{texts{"-p", "a"}, "rm", 30},
		{texts{"-m", "a"}, "rm", 30},
		{texts{"-:", "a"}, "rm", 30},
		{texts{"-rx", "a"}, "rm", 30},
		{texts{"-rf", "-rfi"}, "rm", 30},
		{texts{"---", "a"}, "rm", 30},
		{texts{"-x", "a", "b"}, "rm", 30},
		{texts{"-x", ""}, "rm", 30},
		{texts{"-x"}, "rm", 30},
		{texts{""}, "", 2},
		{texts{"-f", ""}, "", 2},
		{texts{"-rf", "--", ""}, "", 2},
		{texts{wide}, wide, 9},
		{texts{"-rf", "a/" + wide + "/"}, "a/" + wide + "/", 9},
		{texts{strings.Repeat("/", 101)}, strings.Repeat("/", 101), 9},
		{texts{"a\x00"}, "a\x00", 1},
		{texts{"-f", "\x00"}, "\x00", 1},
	} {
		is(t, x.argv, start(t, 3, x.argv, []int{4}), failed(Job{Kind: job.Sweep, P: 3, Fd: -1, Draws: []int{4}}, x.path, x.e))
	}
}

// P17.1: each letter, as a flag.
func TestLetters(t *testing.T) {
	for c := range 256 {
		flag := "-" + string([]byte{byte(c)})
		want := failed(fresh("", 0), "rm", 30)
		switch c {
		case 'r':
			want = fresh("a", 1)
		case 'f':
			want = fresh("a", 2)
		case '-':
			want = fresh("a", 0)
		}
		is(t, flag, sweep.Start(3, texts{flag, "a"}, nil), want)
	}
}

// P17.1: the job is p's, whoever that is, and has the draws that are handed in.
func TestStartIsANewJob(t *testing.T) {
	for _, p := range far {
		for _, draws := range [][]int{nil, {0}, {7, 8, 9}, far, make([]int, 200)} {
			for _, argv := range []texts{{"-rf", "a/b"}, {"a"}, {}, {"-x"}, {""}} {
				j := start(t, p, argv, draws)
				if j.P != p || !slices.Equal(j.Draws, draws) || j.At != 0 || j.Fd != -1 || j.Tries != 0 || j.Phase != 0 || len(j.Stack) != 0 {
					t.Errorf("%q: %+v", argv, j)
				}
			}
		}
	}
}

// P17.2: what is asked in each phase, in a directory, and in none.
func TestAsk(t *testing.T) {
	for _, flags := range far {
		for _, fd := range far {
			for _, l := range []texts{{"x"}, {"x", "y"}, {""}, {"a/b", "z"}} {
				low, high := frame{Fd: fd, Name: "d", Names: l}, frame{Fd: 9, Name: "e", Names: texts{"no"}}
				one, two := []frame{low}, []frame{high, low}
				for i, x := range []struct {
					phase int
					stack []frame
					c     call
				}{
					{0, nil, unlink(-1, "p/q")}, {1, nil, open(-1, "p/q")},
					{0, one, unlink(fd, l[0])}, {1, one, open(fd, l[0])}, {2, one, list(fd)}, {3, one, shut(fd)}, {4, one, rmdir(-1, "d")},
					{0, two, unlink(fd, l[0])}, {1, two, open(fd, l[0])}, {2, two, list(fd)}, {3, two, shut(fd)}, {4, two, rmdir(9, "d")},
					{4, []frame{low, high}, rmdir(fd, "e")}, {4, []frame{high, high, low, high}, rmdir(fd, "e")},
				} {
					if c := ask(t, busy(x.phase, flags, x.stack...)); c != x.c {
						t.Errorf("%d: %+v, want %+v", i, c, x.c)
					}
				}
			}
		}
	}
	for _, path := range []string{"", "a", "/", "a/../b/", "\xff"} { // whatever Start would say of it
		j := busy(0, 1)
		j.Path = path
		if c := ask(t, j); c != unlink(-1, path) {
			t.Error(c)
		}
	}
}

// P17.2: phases that do not look at a frame's Names need none.
func TestNamesAreNotNeeded(t *testing.T) {
	low, high := frame{Fd: 6, Name: "a"}, frame{Fd: 7, Name: "b", Names: texts{}}
	for phase, want := range map[int]call{2: list(7), 3: shut(7), 4: rmdir(6, "b")} {
		if c := ask(t, busy(phase, 0, low, high)); c != want {
			t.Error(phase, c)
		}
	}
}

// P17.2: who is done, of another kind, in another phase, or has not what its
// phase looks at, asks nothing, and stays as it is.
func TestNothingToDo(t *testing.T) {
	var idle []Job
	full, bare := frame{Fd: 1, Name: "a", Names: texts{"x"}}, frame{Fd: 2, Name: "b"}
	for _, phase := range []int{0, 1} {
		idle = append(idle, busy(phase, 3, bare), busy(phase, 3, full, bare), busy(phase, 3, frame{Names: texts{}}))
	}
	for _, phase := range []int{2, 3, 4} {
		j := busy(phase, 3)
		idle = append(idle, j)
		j.Stack = []frame{}
		idle = append(idle, j)
	}
	for phase := range 5 {
		j := busy(phase, 3, full)
		idle = append(idle, ended(j), failed(j, "a", 7))
		for _, kind := range far {
			if kind != job.Sweep {
				other := j
				other.Kind = kind
				idle = append(idle, other)
			}
		}
	}
	for _, phase := range far {
		if phase < 0 || phase > 4 {
			idle = append(idle, busy(phase, 3, full), busy(phase, 3))
		}
	}
	for _, j := range idle {
		if c := ask(t, j); c != (call{}) {
			t.Errorf("%+v asks %+v", j, c)
		}
		for _, e := range errnos {
			is(t, e, tell(t, j, reply{E: e, N: 6}), j)
			is(t, e, tell(t, j, reply{E: e, L: texts{"l"}}), j)
		}
	}
}

// all are replies of error e with whatever else.
func all(e api.Errno) []reply {
	return []reply{{E: e}, {E: e, N: 3, S: "s", L: texts{"l", "m"}, I: kernel.Info{Ino: 1, Kind: 2, Mode: 3, Owner: 4, Links: 5, Size: 6}}}
}

// What flags say, of whatever number.
func hasR(flags int) bool { return flags%2 != 0 }
func hasF(flags int) bool { return uint(flags)/2%2 == 1 }

// P17.2: phase 0, where there is no frame.
func TestUnlinkedPath(t *testing.T) {
	for _, flags := range far {
		for _, e := range errnos {
			j := busy(0, flags)
			want := failed(j, "p/q", int(e))
			switch {
			case e == 0, e == 2 && hasF(flags):
				want = ended(j)
			case e == 5 && hasR(flags):
				want = busy(1, flags)
			}
			for _, r := range all(e) {
				is(t, e, tell(t, j, r), want)
			}
		}
	}
}

// P17.2: phase 0, of the first of two names of the last frame, and of the last one.
func TestUnlinkedName(t *testing.T) {
	low := frame{Fd: 8, Name: "p/q", Names: texts{"d", "e"}}
	for _, flags := range far {
		for _, e := range errnos {
			two, one, none := dir(9, "d", "x", "y"), dir(9, "d", "y"), dir(9, "d")
			j, k := busy(0, flags, low, two), busy(0, flags, low, one)
			wantJ, wantK := failed(j, "p/q", int(e)), failed(k, "p/q", int(e))
			switch {
			case e == 0, e == 2:
				wantJ, wantK = busy(0, flags, low, one), busy(3, flags, low, none)
			case e == 5 && hasR(flags):
				wantJ, wantK = busy(1, flags, low, two), busy(1, flags, low, one)
			}
			for _, r := range all(e) {
				is(t, e, tell(t, j, r), wantJ)
				is(t, e, tell(t, k, r), wantK)
			}
		}
	}
}

// P17.2: phase 1, where there is no frame.
func TestOpenedPath(t *testing.T) {
	for _, flags := range far {
		for _, e := range errnos {
			for _, fd := range far {
				j := busy(1, flags)
				want := failed(j, "p/q", int(e))
				switch {
				case e == 0:
					want = busy(2, flags, frame{Fd: fd, Name: "p/q"})
				case e == 2 && hasF(flags):
					want = ended(j)
				case e == 4, e == 8:
					want = tried(busy(0, flags))
				}
				is(t, e, tell(t, j, reply{E: e, N: fd, L: texts{"l"}}), want)
			}
		}
	}
}

// P17.2: phase 1, in a directory.
func TestOpenedName(t *testing.T) {
	low := frame{Fd: 8, Name: "p/q", Names: texts{"d", "e"}}
	for _, flags := range far {
		for _, e := range errnos {
			two, one, none := dir(9, "d", "x", "y"), dir(9, "d", "y"), dir(9, "d")
			j, k := busy(1, flags, low, two), busy(1, flags, low, one)
			wantJ, wantK := failed(j, "p/q", int(e)), failed(k, "p/q", int(e))
			switch e {
			case 0:
				wantJ, wantK = busy(2, flags, low, two, frame{Fd: 6, Name: "x"}), busy(2, flags, low, one, frame{Fd: 6, Name: "y"})
			case 2:
				wantJ, wantK = busy(0, flags, low, one), busy(3, flags, low, none)
			case 4, 8:
				wantJ, wantK = tried(busy(0, flags, low, two)), tried(busy(0, flags, low, one))
			}
			is(t, e, tell(t, j, reply{E: e, N: 6, L: texts{"l"}}), wantJ)
			is(t, e, tell(t, k, reply{E: e, N: 6, L: texts{"l"}}), wantK)
		}
	}
}

// P17.2: phase 2: what is told takes the place of the last frame's Names.
func TestListed(t *testing.T) {
	for _, l := range []texts{nil, {}, {"x"}, {"b", "a", "a"}, {""}, make(texts, 100)} {
		for _, old := range []texts{nil, {"o"}, {"o", "n", "m"}} {
			for _, e := range errnos {
				low, top := frame{Fd: 8, Name: "p/q", Names: texts{"d", "e"}}, frame{Fd: 9, Name: "d", Names: old}
				for _, stack := range [][]frame{{top}, {low, top}} {
					j := busy(2, 1, stack...)
					want := failed(j, "p/q", int(e))
					if e == 0 {
						stack = append(slices.Clone(stack[:len(stack)-1]), dir(9, "d", l...))
						want = busy(3, 1, stack...)
						if len(l) > 0 {
							want.Phase = 0
						}
					}
					is(t, l, tell(t, j, reply{E: e, N: 6, L: l}), want)
				}
			}
		}
	}
}

// P17.2: phase 3: whatever the reply.
func TestClosed(t *testing.T) {
	low, top := frame{Fd: 8, Name: "p/q", Names: texts{"d", "e"}}, frame{Fd: 9, Name: "d"}
	for _, e := range errnos {
		for _, r := range all(e) {
			is(t, e, tell(t, busy(3, 1, low, top), r), busy(4, 1, low, top))
			is(t, e, tell(t, busy(3, 0, low), r), busy(4, 0, low))
		}
	}
}

// P17.2: phase 4: the frame is gone, unless the job fails, and with it the name
// above, unless the directory is not empty.
func TestRemoved(t *testing.T) {
	two, one, none := dir(8, "p/q", "d", "e"), dir(8, "p/q", "d"), dir(8, "p/q")
	top := frame{Fd: 9, Name: "d", Names: texts{"left"}}
	for _, flags := range far {
		for _, e := range errnos {
			for _, x := range []struct{ j, gone, full Job }{
				{busy(4, flags, two, top), busy(0, flags, dir(8, "p/q", "e")), busy(1, flags, two)},
				{busy(4, flags, one, top), busy(3, flags, none), busy(1, flags, one)},
				{busy(4, flags, none, top), busy(3, flags, none), busy(1, flags, none)},
				{busy(4, flags, top), ended(busy(4, flags)), busy(1, flags)},
			} {
				want := failed(x.j, "p/q", int(e))
				switch e {
				case 0, 2:
					want = x.gone
				case 6:
					want = tried(x.full)
				}
				for _, r := range all(e) {
					is(t, e, tell(t, x.j, r), want)
				}
			}
		}
	}
}

// P17.2: who begins anew does so three times, and no more often; the frame is
// popped also then.
func TestTries(t *testing.T) {
	low, top := dir(8, "p/q", "d", "e"), frame{Fd: 9, Name: "d"}
	for _, tries := range far {
		for _, x := range []struct {
			from   Job
			e      api.Errno
			anew   Job
			failed Job
		}{
			{busy(1, 1), 4, busy(0, 1), busy(1, 1)},
			{busy(1, 1), 8, busy(0, 1), busy(1, 1)},
			{busy(1, 0, low), 4, busy(0, 0, low), busy(1, 0, low)},
			{busy(1, 2, low), 8, busy(0, 2, low), busy(1, 2, low)},
			{busy(4, 1, low, top), 6, busy(1, 1, low), busy(4, 1, low)},
			{busy(4, 3, top), 6, busy(1, 3), busy(4, 3)},
		} {
			x.from.Tries, x.anew.Tries, x.failed.Tries = tries, tries+1, tries
			want := x.anew
			if tries >= 3 {
				want = failed(x.failed, "p/q", 32)
			}
			is(t, tries, tell(t, x.from, not(x.e)), want)
		}
	}
}

// P17.2: tries of all kinds are counted together.
func TestTriesInARow(t *testing.T) {
	j := start(t, 3, texts{"-r", "a"}, nil)
	for i, r := range []reply{
		not(5), not(8), not(5), {N: 1}, {L: texts{"x"}}, not(5), not(4), not(5), {N: 2}, {}, {},
		not(6), {N: 2}, {}, {},
	} {
		if j.Done {
			t.Fatal(i, j)
		}
		j = tell(t, j, r)
	}
	inside := fresh("a", 1)
	inside.Tries, inside.Phase = 3, 4
	inside.Stack = []frame{dir(1, "a", "x"), dir(2, "x")}
	is(t, "three times", j, inside)
	popped := inside
	popped.Stack = inside.Stack[:1]
	is(t, "four times", tell(t, j, not(6)), failed(popped, "a", 32))
	gone := popped
	gone.Phase, gone.Stack = 3, []frame{dir(1, "a")}
	is(t, "three, and well", tell(t, j, reply{}), gone)
}

// R4: two may go on from one job, and neither sees what comes of the other.
func TestTwoWaysOn(t *testing.T) {
	j := own(busy(0, 3, dir(1, "a", "b", "c"), dir(2, "b", "d", "e", "f")))
	j.Tries = -50
	var ways []Job
	for phase := range 5 {
		k := j
		k.Phase = phase
		for _, e := range []api.Errno{0, 2, 4, 5, 6} {
			ways = append(ways, sweep.Tell(k, reply{E: e, N: 5, L: texts{"l", "m"}}))
		}
	}
	was := make(texts, len(ways))
	for i, x := range ways {
		was[i] = whole(own(x))
	}
	first := whole(j)
	for _, x := range ways {
		for _, r := range []reply{{}, not(5), {N: 7}, {L: texts{"k"}}, {}, {}, {}, not(6), {N: 6}, {}, {}, {}, {}, {}} {
			x = sweep.Tell(x, r)
		}
	}
	for i, x := range ways {
		if whole(own(x)) != was[i] {
			t.Error(i, x)
		}
	}
	if whole(j) != first {
		t.Error(j)
	}
}

// R1: whatever is handed in, the calls end, and nothing panics.
func TestNothingPanics(t *testing.T) {
	odd := texts{"", "a", "a/b", "/", "..", "\x00", "\xff\xfe", "-", "-r", "-f", "--", "-:", strings.Repeat("x/", 150)}
	for _, a := range odd {
		for _, b := range odd {
			for _, argv := range []texts{{a}, {a, b}, {"-r", a, b}, {a, "-f", b}, {"-r" + a, b}, {"-rf", a, b}} {
				j := sweep.Start(-1, argv, nil)
				for _, e := range errnos {
					sweep.Ask(sweep.Tell(j, not(e)))
				}
			}
			for _, n := range far {
				for _, m := range far {
					for _, stack := range [][]frame{nil, {{Fd: n}}, {{Fd: m, Name: a, Names: texts{b}}}, {{}, {Fd: n, Name: b}}} {
						j := Job{Kind: 2, Phase: n, Flags: m, Tries: n, Path: a, Done: a == b, At: n, Mode: m, Stack: stack}
						for _, e := range []api.Errno{0, 2, 4, 5, 6, -9} {
							sweep.Ask(sweep.Tell(j, reply{E: e, N: m, L: texts{a, b}[:n&1]}))
						}
					}
				}
			}
		}
	}
}
