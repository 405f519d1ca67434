package ensure_test

import (
	"fmt"
	"math"
	"slices"
	"strings"
	"testing"

	"flagstone/api"
	"flagstone/disk"
	"flagstone/ensure"
	"flagstone/job"
	"flagstone/kernel"
)

type (
	Job   = job.Job
	call  = kernel.Call
	reply = kernel.Reply
	texts = []string
)

// far are numbers as great and small as can be, and those beside zero and the limits.
var far = []int{math.MinInt, math.MinInt + 1, -1 << 32, -101, -64, -3, -2, -1, 0, 1, 2, 3, 4, 9, 63, 64, 100, 1 << 31, 1 << 32, math.MaxInt - 1, math.MaxInt}

// errnos are all errors, and numbers that are none.
var errnos = []api.Errno{0, 1, 2, 3, 4, 5, 6, 7, 8, 9, 10, 11, 12, 13, 14, 15, 30, 31, 32, 33, -1, 16, 99, math.MinInt, math.MaxInt}

func roomy[T any](l []T) []T {
	if l == nil {
		return nil
	}
	return append(make([]T, 0, len(l)+3), l...)
}

// own tells j with memory of its own, and room behind the ends of its lists,
// that nobody may write to.
func own(j Job) Job {
	j.Names, j.Draws, j.Stack = roomy(j.Names), roomy(j.Draws), roomy(j.Stack)
	for i := range j.Stack {
		j.Stack[i].Names = roomy(j.Stack[i].Names)
	}
	return j
}

// whole tells all of j, what stands behind the ends of its lists, too.
func whole(j Job) string {
	return fmt.Sprintf("%#v %#v %#v %#v", j, j.Names[:cap(j.Names)], j.Draws[:cap(j.Draws)], j.Stack[:cap(j.Stack)])
}

// is holds a job against what it should be.
func is(t testing.TB, what any, got, want Job) {
	t.Helper()
	if !job.Same(got, want) {
		t.Errorf("%+v:\n%+v, want\n%+v", what, got, want)
	}
}

// start is Start, held to what it must not do: to change its arguments, to keep
// their memory, or to tell another time something else.
func start(t testing.TB, p int, argv texts, draws []int) Job {
	t.Helper()
	a, d := roomy(argv), roomy(draws)
	handed := fmt.Sprintf("%q %v", a[:cap(a)], d[:cap(d)])
	j := ensure.Start(p, a, d)
	if now := fmt.Sprintf("%q %v", a[:cap(a)], d[:cap(d)]); now != handed {
		t.Errorf("Start changed %s to %s", handed, now)
	}
	was := whole(own(j))
	for i := range a {
		a[i] = "gone"
	}
	for i := range d {
		d[i] = -7
	}
	if whole(own(j)) != was {
		t.Errorf("Start(%q) kept what it was handed", argv)
	}
	is(t, argv, ensure.Start(p, argv, draws), j)
	return j
}

// tell is Tell, held to what it must not do.
func tell(t testing.TB, j Job, r reply) Job {
	t.Helper()
	o := own(j)
	was := whole(o)
	got := ensure.Tell(o, r)
	if whole(o) != was {
		t.Errorf("Tell(%+v, %+v) changed it", j, r)
	}
	is(t, j, ensure.Tell(j, r), got)
	return got
}

// ask is Ask, held to what it must not do.
func ask(t testing.TB, j Job) call {
	t.Helper()
	o := own(j)
	was := whole(o)
	c := ensure.Ask(o)
	if whole(o) != was {
		t.Errorf("Ask(%+v) changed it", j)
	}
	if ensure.Ask(j) != c {
		t.Errorf("Ask(%+v) told something else", j)
	}
	return c
}

func mkdir(path string, mode int) call {
	return call{Kind: kernel.Mkdir, Fd: -1, Path: path, Mode: mode}
}

func look(path string) call { return call{Kind: kernel.Stat, Fd: -1, Path: path} }

// saw is the reply to a Stat of what is of that kind.
func saw(kind int) reply { return reply{I: kernel.Info{Ino: 7, Kind: kind, Mode: 63, Links: 1}} }

func not(e api.Errno) reply { return reply{E: e} }

// fresh is what Start has to tell, with p and without draws.
func fresh(path string, flags, mode int, names ...string) Job {
	return Job{Kind: job.Ensure, P: 3, Fd: -1, Mode: mode, Flags: flags, Path: path, Names: names}
}

// failed is j, failed.
func failed(j Job, path string, e int) Job {
	j.Done, j.Exit, j.E = true, 1, api.Errno(e)
	j.Out = fmt.Sprintf("%s: error %d", path, e)
	return j
}

func ended(j Job) Job {
	j.Done = true
	return j
}

// The chapter's example, and what comes of it.
func TestExample(t *testing.T) {
	j := start(t, 0, texts{"-p", "a/b"}, nil)
	for i, x := range []struct {
		c call
		r reply
	}{{mkdir("a", 63), not(api.ErrExists)}, {look("a"), saw(disk.Dir)}, {mkdir("a/b", 63), reply{}}} {
		if c := ask(t, j); c != x.c || j.Done {
			t.Errorf("%d: %+v of %+v", i, c, j)
		}
		j = tell(t, j, x.r)
	}
	is(t, "-p a/b", j, Job{Kind: job.Ensure, Fd: -1, Mode: 63, Flags: 1, Path: "a/b", Done: true})
	if c := ask(t, j); c != (call{}) {
		t.Error(c)
	}
}

// P16.1: what Start tells of arguments that it takes.
func TestStart(t *testing.T) {
	long := strings.Repeat("a/", 49) + "bc" // of 100 bytes
	ups := make(texts, 0, 50)
	for i := range 49 {
		ups = append(ups, long[:2*i+1])
	}
	ups = append(ups, long)
	for _, x := range []struct {
		argv texts
		want Job
	}{
		{texts{"a"}, fresh("a", 0, 63, "a")},
		{texts{"a/b"}, fresh("a/b", 0, 63, "a/b")},
		{texts{"/a//b/"}, fresh("/a//b/", 0, 63, "/a//b/")},
		{texts{"/"}, fresh("/", 0, 63, "/")},
		{texts{"."}, fresh(".", 0, 63, ".")},
		{texts{"-p", "a"}, fresh("a", 1, 63, "a")},
		{texts{"-p", "a/b"}, fresh("a/b", 1, 63, "a", "a/b")},
		{texts{"-p", "/a//b/"}, fresh("/a//b/", 1, 63, "/a", "/a//b")},
		{texts{"-p", "../a/./b"}, fresh("../a/./b", 1, 63, "..", "../a", "../a/.", "../a/./b")},
		{texts{"-pp", "-p", "a/b"}, fresh("a/b", 1, 63, "a", "a/b")},
		{texts{"-p", long}, fresh(long, 1, 63, ups...)},
		{texts{long}, fresh(long, 0, 63, long)},
		{texts{"123456789012"}, fresh("123456789012", 0, 63, "123456789012")},
		{texts{"-m", "7", "a"}, fresh("a", 0, 7, "a")},
		{texts{"-m7", "a"}, fresh("a", 0, 7, "a")},
		{texts{"-m0", "a"}, fresh("a", 0, 0, "a")},
		{texts{"-m00", "a"}, fresh("a", 0, 0, "a")},
		{texts{"-m77", "a"}, fresh("a", 0, 63, "a")},
		{texts{"-m64", "a"}, fresh("a", 0, 52, "a")},
		{texts{"-pm7", "a/b"}, fresh("a/b", 1, 7, "a", "a/b")},
		{texts{"-p", "-m", "64", "a"}, fresh("a", 1, 52, "a")},
		{texts{"-m", "64", "-p", "a"}, fresh("a", 1, 52, "a")},
		{texts{"-m", "64", "-m", "1", "a"}, fresh("a", 0, 1, "a")},
		{texts{"-m", "x", "-m", "1", "a"}, fresh("a", 0, 1, "a")},
		{texts{"-m", "", "-m", "1", "a"}, fresh("a", 0, 1, "a")},
		{texts{"--", "-p"}, fresh("-p", 0, 63, "-p")},
		{texts{"-p", "--", "-m"}, fresh("-m", 1, 63, "-m")},
		{texts{"-"}, fresh("-", 0, 63, "-")},
		{texts{"a\xffü b"}, fresh("a\xffü b", 0, 63, "a\xffü b")},
	} {
		is(t, x.argv, start(t, 3, x.argv, nil), x.want)
	}
}

// P16.1: a path without a part, all of whose directories are there, ends at once.
func TestStartOfNoName(t *testing.T) {
	for _, path := range []string{"/", "//", strings.Repeat("/", 100)} {
		is(t, path, start(t, 3, texts{"-p", path}, nil), ended(fresh(path, 1, 63)))
		is(t, path, start(t, 3, texts{"-pm7", path}, nil), ended(fresh(path, 1, 7)))
		is(t, path, start(t, 3, texts{path}, nil), fresh(path, 0, 63, path))
	}
}

// P16.1: what Start tells of arguments that it does not take, the error that is
// named first ahead; nothing else is set.
func TestStartFails(t *testing.T) {
	wide := strings.Repeat("x", 13)
	for _, x := range []struct {
		argv texts
		path string
		e    int
	}{
		{nil, "mkdir", 1},
		{texts{"-p"}, "mkdir", 1},
		{texts{"--"}, "mkdir", 1},
		{texts{"-m", "7"}, "mkdir", 1},
		{texts{"-m", "8"}, "mkdir", 1},
		{texts{"a", "b"}, "mkdir", 1},
		{texts{"a", "-p"}, "mkdir", 1},
		{texts{"", ""}, "mkdir", 1},
		{texts{wide, wide}, "mkdir", 1},
		{texts{"-m8", "a", "b"}, "mkdir", 1},
		{texts{"-x", "a"}, "mkdir", 30},
		{texts{"-:", "a"}, "mkdir", 30},
		{texts{"-px"}, "mkdir", 30},
		{texts{"-x", "a", "b"}, "mkdir", 30},
		{texts{"-x", ""}, "mkdir", 30},
		{texts{"-m"}, "mkdir", 31},
		{texts{"-pm"}, "mkdir", 31},
		{texts{"-m", "8", "-m"}, "mkdir", 31},
		{texts{""}, "", 2},
		{texts{"-p", ""}, "", 2},
		{texts{"-m8", ""}, "", 2},
		{texts{wide}, wide, 9},
		{texts{"-m8", wide}, wide, 9},
		{texts{"-p", "a/" + wide + "/"}, "a/" + wide + "/", 9},
		{texts{strings.Repeat("/", 101)}, strings.Repeat("/", 101), 9},
		{texts{"-p", strings.Repeat("/", 101)}, strings.Repeat("/", 101), 9},
		{texts{"a\x00"}, "a\x00", 1},
		{texts{"-m8", "a\x00"}, "a\x00", 1},
		{texts{"-m8", "a"}, "8", 31},
		{texts{"-m", "", "a"}, "", 31},
		{texts{"-m", "-p", "a"}, "-p", 31},
		{texts{"-m000", "a"}, "000", 31},
		{texts{"-m", "-1", "/"}, "-1", 31},
		{texts{"-pm9", "/"}, "9", 31},
		{texts{"-m7", "-m", "rwx", "a"}, "rwx", 31},
	} {
		is(t, x.argv, start(t, 3, x.argv, []int{4}), failed(Job{Kind: job.Ensure, P: 3, Fd: -1, Draws: []int{4}}, x.path, x.e))
	}
}

// P16.1: each text of one and two bytes, as the value of m.
func TestModes(t *testing.T) {
	for i := range 1 << 16 {
		value, octal, m := string([]byte{byte(i >> 8), byte(i)}), true, 0
		if i < 256 {
			value = value[1:]
		}
		for _, c := range []byte(value) {
			octal, m = octal && c >= '0' && c <= '7', m*8+int(c-'0')
		}
		j := ensure.Start(3, texts{"-m", value, "a"}, nil)
		want := fresh("a", 0, m, "a")
		if !octal {
			want = failed(fresh("", 0, 0), value, 31)
		}
		is(t, value, j, want)
	}
}

// P16.1: the job is p's, whoever that is, and has the draws that are handed in.
func TestStartIsANewJob(t *testing.T) {
	for _, p := range far {
		for _, draws := range [][]int{nil, {0}, {7, 8, 9}, far, make([]int, 200)} {
			for _, argv := range []texts{{"-p", "a/b"}, {"a"}, {"-p", "/"}, {}, {"-x"}, {""}, {"-m8", "a"}} {
				j := start(t, p, argv, draws)
				if j.P != p || !slices.Equal(j.Draws, draws) || j.At != 0 || j.Fd != -1 || j.Tries != 0 {
					t.Errorf("%q: %+v", argv, j)
				}
			}
		}
	}
}

// P16.2: what is asked of the first of the names, in each phase.
func TestAsk(t *testing.T) {
	for _, mode := range far {
		for _, flags := range []int{0, 1, 2, 3} {
			for _, names := range []texts{{"a"}, {"a", "a/b"}, {"/"}, {""}, {"../x/", "y"}} {
				j := Job{Kind: job.Ensure, P: 2, Mode: mode, Flags: flags, Path: "p", Names: names, N: 4, Fd: 5, Text: "t"}
				if c := ask(t, j); c != mkdir(names[0], mode) {
					t.Errorf("%+v: %+v", j, c)
				}
				j.Phase = 1
				if c := ask(t, j); c != look(names[0]) {
					t.Errorf("%+v: %+v", j, c)
				}
			}
		}
	}
}

// P16.2, P16.3: who is done, of another kind, in another phase, or has no names,
// asks nothing, and stays as it is.
func TestNothingToDo(t *testing.T) {
	var idle []Job
	for _, phase := range []int{0, 1} {
		j := Job{Kind: job.Ensure, Phase: phase, Path: "a/b", Names: texts{"a", "a/b"}, Flags: 1, Mode: 5, Draws: []int{1}, Stack: []job.Frame{{Fd: 1}}}
		for _, names := range []texts{nil, {}} {
			bare := j
			bare.Names = names
			idle = append(idle, bare)
		}
		for _, kind := range slices.Concat(far, []int{5, 6, 7, 8}) {
			if kind != job.Ensure {
				other := j
				other.Kind = kind
				idle = append(idle, other)
			}
		}
		done := ended(j)
		idle = append(idle, done, failed(j, "a", 7))
	}
	for _, phase := range far {
		if phase != 0 && phase != 1 {
			idle = append(idle, Job{Kind: job.Ensure, Phase: phase, Path: "a", Names: texts{"a"}, Flags: 1})
		}
	}
	for _, j := range idle {
		if c := ask(t, j); c != (call{}) {
			t.Errorf("%+v asks %+v", j, c)
		}
		for _, e := range errnos {
			for kind := range 4 {
				is(t, e, tell(t, j, reply{E: e, I: kernel.Info{Kind: kind}}), j)
			}
		}
	}
}

// busy is a job with something in each field, so that all is seen that goes.
func busy(phase, flags, tries int, path string, names ...string) Job {
	return Job{
		Kind: job.Ensure, P: 2, Phase: phase, Fd: 4, N: 5, Mode: 6, Tries: tries, At: 1, Flags: flags,
		Path: path, Path2: "q", Text: "t", Names: names,
		Stack: []job.Frame{{Fd: 1, Name: "a", Names: texts{"b"}}}, Draws: []int{7, 8},
	}
}

// P16.3: in phase 0, each reply of each kind of job.
func TestMade(t *testing.T) {
	for _, flags := range []int{0, 1, 2, 3, -1, math.MaxInt} {
		for _, e := range errnos {
			j := busy(0, flags, 1, "a/b/c", "a/b", "a/b/c")
			want := failed(j, "a/b", int(e))
			switch {
			case e == 0:
				want = busy(0, flags, 1, "a/b/c", "a/b/c")
			case e == 3 && flags == 1:
				want = busy(1, flags, 1, "a/b/c", "a/b", "a/b/c")
			case e == 2 && flags == 1:
				want = busy(0, flags, 2, "a/b/c", "a", "a/b", "a/b/c")
			}
			for kind := range 4 { // what a Mkdir sees is not looked at
				is(t, e, tell(t, j, reply{E: e, N: 3, S: "s", L: texts{"l"}, I: kernel.Info{Kind: kind}}), want)
			}
		}
	}
}

// P16.3: in phase 1, each reply; whether it is a job with p is not asked.
func TestSeen(t *testing.T) {
	for _, flags := range []int{0, 1, 2, 3, -1, math.MaxInt} {
		for _, e := range errnos {
			for _, kind := range slices.Concat(far, []int{5, 6}) {
				j := busy(1, flags, 1, "a/b/c", "a/b", "a/b/c")
				want := failed(j, "a/b", int(e))
				switch {
				case e == 0 && kind == disk.Dir:
					want = busy(0, flags, 1, "a/b/c", "a/b/c")
				case e == 0:
					want = failed(j, "a/b", 4)
				case e == 2:
					want = busy(0, flags, 2, "a/b/c", "a", "a/b", "a/b/c")
				}
				is(t, e, tell(t, j, reply{E: e, I: kernel.Info{Ino: 2, Kind: kind, Mode: 2, Owner: 2, Links: 2, Size: 2}}), want)
			}
		}
	}
}

// P16.3: behind the last name it ends.
func TestLastName(t *testing.T) {
	for _, flags := range []int{0, 1} {
		is(t, flags, tell(t, busy(0, flags, 3, "a/b", "a/b"), reply{}), ended(busy(0, flags, 3, "a/b")))
		is(t, flags, tell(t, busy(1, flags, 3, "a/b", "a/b"), saw(disk.Dir)), ended(busy(0, flags, 3, "a/b")))
	}
}

// P16.3: who begins anew does so three times, and no more often.
func TestTries(t *testing.T) {
	for _, phase := range []int{0, 1} {
		for _, tries := range far {
			j := busy(phase, 1, tries, "/a//b/", "/a//b")
			want := busy(0, 1, tries+1, "/a//b/", "/a", "/a//b")
			if tries >= 3 {
				want = failed(j, "/a//b", 32)
			}
			is(t, tries, tell(t, j, not(api.ErrNone)), want)
		}
	}
	j := start(t, 3, texts{"-p", "a"}, nil)
	for range 3 {
		j = tell(t, j, not(api.ErrNone))
	}
	is(t, "three times", j, Job{Kind: 1, P: 3, Fd: -1, Mode: 63, Flags: 1, Tries: 3, Path: "a", Names: texts{"a"}})
	is(t, "four times", tell(t, j, not(api.ErrNone)), failed(j, "a", 32))
	is(t, "three, and well", tell(t, j, reply{}), ended(Job{Kind: 1, P: 3, Fd: -1, Mode: 63, Flags: 1, Tries: 3, Path: "a"}))
}

// P16.3: as it says, a job that begins anew has the Ups of its path, also where
// that has none.
func TestAnewWithoutParts(t *testing.T) {
	for _, path := range []string{"", "/", "//"} {
		is(t, path, tell(t, busy(1, 1, 0, path, "a", "b"), not(api.ErrNone)), busy(0, 1, 1, path))
	}
}

// R4: two may go on from one job, and neither sees what comes of the other.
func TestTwoWaysOn(t *testing.T) {
	j := own(start(t, 3, texts{"-p", "a/b/c"}, []int{5}))
	one := ensure.Tell(j, reply{})
	two := ensure.Tell(j, not(api.ErrExists))
	three := ensure.Tell(j, not(api.ErrNone))
	was := []string{whole(own(j)), whole(own(one)), whole(own(two)), whole(own(three))}
	for _, x := range []Job{one, two, three} {
		for range 6 {
			x = ensure.Tell(x, not(api.ErrExists))
			x = ensure.Tell(x, saw(disk.Dir))
			x = ensure.Tell(x, not(api.ErrNone))
		}
	}
	for i, x := range []Job{j, one, two, three} {
		if whole(own(x)) != was[i] {
			t.Error(i, x)
		}
	}
}

// R1: whatever is handed in, the calls end, and nothing panics.
func TestNothingPanics(t *testing.T) {
	odd := texts{"", "a", "a/b", "/", "..", "\x00", "\xff\xfe", "-", "-p", "-m", "--", strings.Repeat("x/", 150)}
	for _, a := range odd {
		for _, b := range odd {
			for _, argv := range []texts{{a, b}, {"-p", a, b}, {a, "-m", b}, {"-m" + a, b}, {"-pm", a, b}} {
				j := ensure.Start(-1, argv, nil)
				for _, e := range errnos {
					ensure.Ask(ensure.Tell(j, not(e)))
				}
			}
			for _, n := range far {
				for _, m := range far {
					for _, done := range []bool{true, false} {
						j := Job{Kind: 1, Phase: n & 1, Flags: m, Tries: n, Path: a, Names: texts{b}, Done: done, At: n, Mode: m}
						for _, e := range []api.Errno{0, 2, 3, -9} {
							ensure.Ask(ensure.Tell(j, reply{E: e, I: kernel.Info{Kind: m}}))
						}
					}
				}
			}
		}
	}
}
