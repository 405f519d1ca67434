package sweep_test

import (
	"fmt"
	"slices"
	"strings"
	"testing"

	"flagstone/api"
	"flagstone/change"
	"flagstone/disk"
	"flagstone/entry"
	"flagstone/handle"
	"flagstone/kernel"
	"flagstone/proc"
	"flagstone/route"
	"flagstone/sweep"
	"flagstone/tree"
	"flagstone/walk"
)

// scene is a kernel, the jobs that run on it, each by a process of its own, and
// the directories that each of them opened; and calls that another process makes.
type scene struct {
	k      kernel.Kernel
	jobs   []Job
	opened [][]int
	other  int
	script []call
}

// ground tells a kernel with a disk of what is told, in order: `a/` is a
// directory, `a` a file, `a>b` a link whose text is b, `a=b` another name of b,
// and `a!3` gives a the mode 3.
func ground(t testing.TB, things ...string) kernel.Kernel {
	t.Helper()
	k := proc.Boot(90, 500, 63)
	as := change.As{Who: 1}
	for _, x := range things {
		e := api.OK
		if name, text, is := strings.Cut(x, ">"); is {
			k.D, e = change.Symlink(k.D, as, text, name)
		} else if name, old, is := strings.Cut(x, "="); is {
			k.D, e = change.Link(k.D, as, old, name)
		} else if name, mode, is := strings.Cut(x, "!"); is {
			m := 0
			fmt.Sscan(mode, &m)
			k.D, e = change.Chmod(k.D, as, name, m)
		} else if strings.HasSuffix(x, "/") {
			k.D, e = change.Mkdir(k.D, as, x, 61)
		} else {
			k.D, _, e = change.Make(k.D, as, x, 63)
		}
		if e != api.OK {
			t.Fatal(x, e)
		}
	}
	return k
}

// comes tells s with a process more, in the root, that has a job of argv.
func (s scene) comes(t testing.TB, who int, argv ...string) scene {
	t.Helper()
	k, p, e := proc.Spawn(s.k, who, 0, 0)
	if e != api.OK {
		t.Fatal(e)
	}
	s.k, s.jobs = k, append(slices.Clone(s.jobs), sweep.Start(p, argv, nil))
	s.opened = append(slices.Clone(s.opened), nil)
	return s
}

// disturbed tells s with a process that makes these calls.
func (s scene) disturbed(t testing.TB, l ...call) scene {
	t.Helper()
	k, p, e := proc.Spawn(s.k, 0, 0, 0)
	if e != api.OK {
		t.Fatal(e)
	}
	s.k, s.other, s.script = k, p, l
	return s
}

// step tells s behind the next call of job i, that is held against what a job may do.
func (s scene) step(t testing.TB, i int) scene {
	t.Helper()
	j := s.jobs[i]
	c := sweep.Ask(j)
	k, r := kernel.Do(s.k, j.P, c)
	s.onlyNamed(t, i, c, k)
	if c.Kind == kernel.Open && r.E == api.OK {
		s.opened = slices.Clone(s.opened)
		s.opened[i] = append(slices.Clone(s.opened[i]), s.openedBeneath(t, i, c, k, r.N))
	}
	s.jobs = slices.Clone(s.jobs)
	s.jobs[i], s.k = sweep.Tell(j, r), k
	return s
}

// spot is a name in the directory of that number.
type spot struct {
	dir  int
	name string
}

// names are all names of d, with what they name.
func names(d disk.Disk) map[spot]int {
	l := map[spot]int{}
	for i, n := range d.Nodes {
		for _, x := range n.Names {
			l[spot{i, x.Name}] = x.Ino
		}
	}
	return l
}

// meant tells the spot that the call c of job i is about, which is the job's
// own path, or a name in a directory that it opened.
func (s scene) meant(t testing.TB, i int, c call) spot {
	t.Helper()
	j := s.jobs[i]
	if c.Fd == -1 {
		x := s.k.Procs[j.P]
		at, e := walk.Walk(s.k.D, x.Who, x.Cwd, j.Path, false)
		if e != api.OK || c.Path != j.Path {
			t.Fatalf("%+v of %+v: %d", c, j, e)
		}
		return spot{at.Dir, at.Name}
	}
	_, x, is := handle.Get(s.k.T, j.P, c.Fd)
	if !is || !slices.Contains(s.opened[i], x.Ino) || entry.Legal(c.Path) != api.OK {
		t.Fatalf("%+v of %+v, that opened %v", c, j, s.opened[i])
	}
	return spot{x.Ino, c.Path}
}

// onlyNamed holds that the call c of job i, behind which the kernel is k, takes
// away nothing but the name that is meant, and leaves all else as it was.
func (s scene) onlyNamed(t testing.TB, i int, c call, k kernel.Kernel) {
	t.Helper()
	was, now := names(s.k.D), names(k.D)
	for x, ino := range was {
		if there, is := now[x]; is && there == ino {
			continue
		}
		if c.Kind != kernel.Unlink && c.Kind != kernel.Rmdir || x != s.meant(t, i, c) || len(was) != len(now)+1 {
			t.Fatalf("%+v took %v: %+v", c, x, s.jobs[i])
		}
	}
	if len(now) > len(was) {
		t.Fatalf("%+v made a name", c)
	}
	for at, n := range s.k.D.Nodes {
		if m, is := disk.Get(k.D, at); is && (m.Kind != n.Kind || m.Mode != n.Mode || m.Owner != n.Owner || m.Data != n.Data) {
			t.Fatalf("%+v changed %+v to %+v", c, n, m)
		}
	}
}

// openedBeneath tells the number of the directory that the call c of job i has
// opened, by no link.
func (s scene) openedBeneath(t testing.TB, i int, c call, k kernel.Kernel, fd int) int {
	t.Helper()
	x := s.meant(t, i, c)
	_, desc, _ := handle.Get(k.T, s.jobs[i].P, fd)
	n, _ := disk.Get(s.k.D, x.dir)
	ino, is := entry.Find(n.Names, x.name)
	if !is || ino != desc.Ino {
		t.Fatalf("%+v opened %d, not %d", c, desc.Ino, ino)
	}
	return ino
}

// alone tells s after job i is done, with nobody between.
func (s scene) alone(t testing.TB, i int) scene {
	t.Helper()
	for range 2000 {
		if s.jobs[i].Done {
			return s
		}
		s = s.step(t, i)
	}
	t.Fatal("never done")
	return s
}

// orders goes through all orders in which the jobs of s, and the other one, can
// make their calls, and tells how each ends. What has come about another way is
// not gone through a second time.
func (s scene) orders(t testing.TB, end func(scene)) {
	t.Helper()
	seen := map[string]bool{}
	var on func(s scene)
	on = func(s scene) {
		state := fmt.Sprint(s)
		if seen[state] {
			return
		}
		seen[state] = true
		over := len(s.script) == 0
		if !over {
			next := s
			next.k, _ = kernel.Do(s.k, s.other, s.script[0])
			next.script = s.script[1:]
			on(next)
		}
		for i, j := range s.jobs {
			if !j.Done {
				over = false
				on(s.step(t, i))
			}
		}
		if over {
			end(s)
		}
	}
	on(s)
}

// there tells the node of that path, that is a link itself, and whether there is one.
func there(k kernel.Kernel, path string) (int, bool) {
	i, e := walk.Node(k.D, 0, 0, path, false)
	return i, e == api.OK
}

// elsewhere are the lines of all that does not stand at path, or beneath it.
func elsewhere(k kernel.Kernel, path string) []tree.Line {
	parts, _, _ := route.Split(path)
	path = strings.Join(parts, "/")
	return slices.DeleteFunc(tree.List(k.D, 0), func(l tree.Line) bool {
		return l.Path == path || strings.HasPrefix(l.Path, path+"/")
	})
}

// levels tells how many directories stand one in the other, from node i on.
func levels(k kernel.Kernel, i int) int {
	n, _ := disk.Get(k.D, i)
	if n.Kind != disk.Dir {
		return 0
	}
	most := 0
	for _, x := range n.Names {
		most = max(most, levels(k, x.Ino))
	}
	return 1 + most
}

// outcome is the error that a job of who may all ends with, if nobody disturbs it.
func outcome(k kernel.Kernel, path string, flags int) api.Errno {
	i, is := there(k, path)
	n, _ := disk.Get(k.D, i)
	switch {
	case !is && flags&2 == 0:
		return api.ErrNone
	case is && n.Kind == disk.Dir && flags&1 == 0:
		return api.ErrIsDir
	case is && levels(k, i) > api.MaxFds:
		return api.ErrMany
	}
	return api.OK
}

// chain are n directories, one in the other.
func chain(n int) texts {
	var l texts
	for i := range n {
		l = append(l, strings.Repeat("a/", i+1))
	}
	return l
}

// grounds are disks of all kinds.
func grounds(t testing.TB) []kernel.Kernel {
	return []kernel.Kernel{
		ground(t),
		ground(t, "a"),
		ground(t, "a/"),
		ground(t, "a/", "a/b/", "a/b/c/", "a/b/c/d", "a/e", "b", "c/", "c/a"),
		ground(t, "a>b"),
		ground(t, "b/", "b/x", "b/y/", "a>b", "c>/b/y"),
		ground(t, "b/", "b/x", "b/y/", "b/y/z", "a/", "a/l>/b", "a/m>../b", "a/n>.", "a/o>..", "a/p>/", "a/q>no", "a/r>r"),
		ground(t, "b/", "b/x", "a/", "a/x=b/x", "a/b/", "a/b/x=b/x", "c=b/x", "a/b/y", "a/b/z=a/b/y"),
		ground(t, "a/", "a/b/", "a/b/b/", "a/b/b/b/", "a/b/a/", "a/b/a/b", "a/a/", "a/a/a/", "aa/", "aa/a", "a b/", "a b/a"),
		ground(t, "a/", "a/b/", "a/c", "a/d/", "a/d/e", "a!7", "b/", "b/c"),
		ground(t, "a/", "a/b/", "a/b/c", "a/d", "a/b!0", "b/", "b/c/", "b/c/d", "b/c!61", "b!37"),
		ground(t, chain(7)...), ground(t, chain(8)...), ground(t, chain(9)...), ground(t, chain(12)...),
		ground(t, append(chain(8), "a/a/b/", "a/a/b/c", strings.Repeat("a/", 8)+"b", "c")...),
	}
}

var straight = texts{"a", "/a", "//a", "b", "c", "a/b", "/a//b", "a/b/c", "b/c", "b/y", "a/a", "a/l", "a/x", "aa", "a b", "no", "b/no"}

// isStraight tells whether all ahead of the path's last part are directories.
func isStraight(k kernel.Kernel, path string) bool {
	parts, _, _ := route.Split(path)
	for i := range len(parts) - 1 {
		ino, is := there(k, strings.Join(parts[:i+1], "/"))
		n, _ := disk.Get(k.D, ino)
		if !is || n.Kind != disk.Dir {
			return false
		}
	}
	return true
}

// P17.3: of a path that goes straight down: exit 0 means that nothing is there
// any more; all that was elsewhere is as it was. Whoever may all is kept only by
// what is no force, or too deep.
func TestAlone(t *testing.T) {
	good, bad := 0, map[api.Errno]int{}
	for at, k := range grounds(t) {
		for _, path := range straight {
			if !isStraight(k, path) {
				continue
			}
			for flags, f := range []texts{{}, {"-r"}, {"-f"}, {"-rf"}} {
				for who := range 3 {
					s := scene{k: k}.comes(t, who, append(f[:len(f):len(f)], path)...)
					l := s.alone(t, 0)
					j := l.jobs[0]
					_, is := there(l.k, path)
					if !kernel.Right(l.k) || j.Exit == 0 && (is || handle.Count(l.k.T, j.P) > 0) {
						t.Errorf("%d %q %q %d: %+v", at, path, f, who, j)
					}
					if want := outcome(k, path, flags); who == 0 && j.E != want || j.Exit == 0 != (j.E == api.OK) {
						t.Errorf("%d %q %q %d: %+v, not %d", at, path, f, who, j, want)
					}
					if was, now := elsewhere(k, path), elsewhere(l.k, path); !slices.Equal(was, now) {
						t.Errorf("%d %q %q %d: %+v, not %+v", at, path, f, who, now, was)
					}
					if j.Exit == 0 {
						good++
					}
					bad[j.E]++
				}
			}
		}
	}
	if good < 300 || bad[api.ErrAccess] < 20 || bad[api.ErrMany] < 4 || len(bad) != 5 {
		t.Error(good, bad)
	}
}

// What whoever may not all is told, and what is left behind then.
func TestNotAllowed(t *testing.T) {
	for i, x := range []struct {
		things texts
		out    string
		left   texts
	}{
		{texts{"a/", "a/b", "a!5"}, "a: error 7", texts{"", "a", "a/b"}},
		{texts{"a/", "a/b", "a!3"}, "a: error 7", texts{"", "a", "a/b"}},
		{texts{"a/", "a!3"}, "a: error 7", texts{"", "a"}},
		{texts{"a/", "a!4"}, "", texts{""}},
		{texts{"a/", "a/b", "a!6"}, "a: error 7", texts{"", "a", "a/b"}},
		{texts{"a/", "a/b", "a!7"}, "", texts{""}},
		{texts{"a/", "a/b/", "a/b/c", "a/d", "a/b!5", "a!7"}, "a: error 7", texts{"", "a", "a/b", "a/b/c", "a/d"}},
		{texts{"a/", "a/b", "a/c/", "a/d/", "a/c!0", "a!7"}, "a: error 7", texts{"", "a", "a/c", "a/d"}},
	} {
		s := scene{k: ground(t, x.things...)}.comes(t, 2, "-rf", "a").alone(t, 0)
		var left texts
		for _, l := range tree.List(s.k.D, 0) {
			left = append(left, l.Path)
		}
		if s.jobs[0].Out != x.out || !slices.Equal(left, x.left) {
			t.Errorf("%d: %+v, left %q", i, s.jobs[0], left)
		}
	}
}

// What is kept by the directory that has it goes with all beneath, but itself.
func TestKept(t *testing.T) {
	s := scene{k: ground(t, "a/", "a/b/", "a/b/c", "a/b!63", "a!45")}.comes(t, 2, "-r", "a/b").alone(t, 0)
	i, is := there(s.k, "a/b")
	n, _ := disk.Get(s.k.D, i)
	if s.jobs[0].Out != "a/b: error 7" || !is || len(n.Names) > 0 {
		t.Error(s.jobs[0], n)
	}
}

// A process that is in what it removes is in a directory without a name.
func TestRemovesItsOwnPlace(t *testing.T) {
	k := ground(t, "a/", "a/b/", "a/b/c", "d")
	i, _ := there(k, "a/b")
	k, p, _ := proc.Spawn(k, 1, 0, i)
	s := scene{k: k, jobs: []Job{sweep.Start(p, texts{"-r", "/a"}, nil)}, opened: [][]int{nil}}.alone(t, 0)
	if s.jobs[0].Exit != 0 || !kernel.Right(s.k) || disk.Used(s.k.D) != 3 || !slices.Equal(elsewhere(k, "a"), elsewhere(s.k, "a")) {
		t.Error(s.jobs[0], s.k.D)
	}
	k, p, _ = proc.Spawn(k, 1, 0, i)
	s = scene{k: k, jobs: []Job{sweep.Start(p, texts{"c"}, nil)}, opened: [][]int{nil}}.alone(t, 0)
	if _, is := there(s.k, "a/b/c"); s.jobs[0].Exit != 0 || is {
		t.Error(s.jobs[0], s.k.D)
	}
}

func move(a, b string) call { return call{Kind: kernel.Rename, Fd: -1, Fd2: -1, Path: a, Path2: b} }
func lay(name, text string) call {
	return call{Kind: kernel.Symlink, Fd: -1, Path: name, Data: text}
}
func hard(a, b string) call { return call{Kind: kernel.Link, Fd: -1, Path: a, Path2: b} }
func mk(name string) call   { return call{Kind: kernel.Mkdir, Fd: -1, Path: name, Mode: 63} }
func touch(name string) call {
	return call{Kind: kernel.Open, Fd: -1, Path: name, Flags: kernel.Create | kernel.ToWrite, Mode: 63}
}

// P17.3: whatever another one lays in the way, in all orders of the calls, the
// job goes nowhere that it was not told to go: what stands at b stays.
func TestNobodyLeadsItElsewhere(t *testing.T) {
	ends, outs := 0, map[string]int{}
	k := ground(t, "a/", "a/d/", "a/d/x", "a/d/y/", "a/e", "b/", "b/x", "b/y/", "b/y/z", "b/e")
	at, _ := there(k, "b")
	was := tree.List(k.D, at)
	for n, script := range [][]call{
		{move("a/d", "q"), lay("a/d", "/b")},
		{move("a/d", "q"), lay("a/d", "../b"), unlink(-1, "a/d"), move("q", "a/d")},
		{unlink(-1, "a/d/x"), rmdir(-1, "a/d/y"), rmdir(-1, "a/d"), lay("a/d", "/b")},
		{move("a", "q"), lay("a", "b")},
		{move("a", "q"), lay("a", "b"), unlink(-1, "a"), move("q", "a")},
		{move("a/d/y", "w"), move("a/d", "q"), lay("a/d", "/b"), move("w", "a/y")},
		{move("a/d/y", "q"), lay("a/d/y", "/b/y"), lay("a/d/z", "/b")},
		{rmdir(-1, "a/d/y"), lay("a/d/y", "../../b"), move("a", "q")},
		{unlink(-1, "a/e"), lay("a/e", "/b"), unlink(-1, "a/e"), mk("a/e"), lay("a/e/l", "/b/y")},
		{hard("b/x", "a/h"), hard("b/x", "a/d/h"), hard("b/y/z", "a/d/y/h")},
		{touch("a/n"), touch("a/d/n"), touch("a/d/y/n"), mk("a/m")},
		{move("a/d", "q"), touch("a/d"), unlink(-1, "a/d"), lay("a/d", "/b")},
	} {
		for _, argv := range []texts{{"-r", "a"}, {"-rf", "a/d"}, {"-rf", "a"}} {
			s := scene{k: k}.comes(t, 1, argv...).disturbed(t, script...)
			s.orders(t, func(l scene) {
				ends++
				outs[l.jobs[0].Out]++
				if now := tree.List(l.k.D, at); !slices.Equal(now, was) || !kernel.Right(l.k) {
					t.Errorf("%d %q: %+v, not %+v", n, argv, now, was)
				}
			})
		}
	}
	if ends < 1000 || outs[""] < 500 || outs["a: error 2"] == 0 || len(outs) < 3 {
		t.Error(ends, outs)
	}
}

// P17.2, P17.3: what is put there while it works goes too, till it has tried
// three times more.
func TestPutThere(t *testing.T) {
	for times := range 6 {
		s := scene{k: ground(t, "a/", "b")}.comes(t, 1, "-r", "a").disturbed(t)
		for range times {
			for s.jobs[0].Phase != 4 || len(s.jobs[0].Stack) > 1 {
				s = s.step(t, 0)
			}
			s.k, _ = kernel.Do(s.k, s.other, mk("a/x"))
			s.k, _ = kernel.Do(s.k, s.other, touch("a/x/y"))
			s = s.step(t, 0)
			if s.jobs[0].Done {
				break
			}
		}
		j := s.alone(t, 0).jobs[0]
		if times < 4 && (j.Exit != 0 || j.Tries != times) || times > 3 && (j.Out != "a: error 32" || j.E != api.ErrTries || j.Tries != 3) {
			t.Error(times, j)
		}
	}
}

// Two who remove one thing by force, in each order of their calls, both end
// well; without it one of them may be told that nothing is there.
func TestTwo(t *testing.T) {
	k := ground(t, "a/", "a/b/", "a/b/c", "a/d", "b/", "b/c")
	was := elsewhere(k, "a")
	for _, flags := range []string{"-rf", "-r"} {
		told := 0
		scene{k: k}.comes(t, 1, flags, "a").comes(t, 1, flags, "a").orders(t, func(l scene) {
			exits := l.jobs[0].Exit + l.jobs[1].Exit
			told += exits
			if flags == "-rf" && exits > 0 || exits > 1 || !slices.Equal(tree.List(l.k.D, 0), was) || !kernel.Right(l.k) {
				t.Error(flags, l.jobs, l.k.D)
			}
			for _, j := range l.jobs {
				if j.Exit == 1 && j.Out != "a: error 2" || handle.Count(l.k.T, j.P) > 0 {
					t.Error(flags, j)
				}
			}
		})
		if flags == "-r" && told == 0 {
			t.Error("never told")
		}
	}
}

// otherCall tells a call by draws, by which names come and go.
func otherCall(draw func(int) int) call {
	all := texts{"a", "b", "a/b", "a/b/c", "b/c", "c", "a/c", "a/b/d", "b/a", "c/x"}
	name, second := all[draw(len(all))], all[draw(len(all))]
	switch draw(7) {
	case 0:
		return lay(name, "/"+second)
	case 1:
		return hard(name, second)
	case 2:
		return touch(name)
	case 3, 4:
		return move(name, second)
	}
	return mk(name)
}

// P17.3: jobs and others by draws: no job removes anything but what is named
// beneath what it opened, and all of them end; who ends with exit 0 leaves
// nothing where it was told, right then.
func TestManyAndOthers(t *testing.T) {
	draw := drawing(173)
	good, bad := 0, map[api.Errno]int{}
	for row := range 3000 {
		s := scene{k: ground(t)}.disturbed(t)
		for range 12 {
			s.k, _ = kernel.Do(s.k, s.other, otherCall(draw))
		}
		for range 1 + draw(3) {
			f := []string{"-r", "-f", "-rf", "-rr", "--"}[draw(5)]
			s = s.comes(t, draw(3), f, []string{"a", "/a", "a/b", "b", "c", "b/c"}[draw(6)])
		}
		for range 80 {
			if draw(3) == 0 {
				c := otherCall(draw)
				k, r := kernel.Do(s.k, s.other, c)
				if c.Kind == kernel.Open && r.E == api.OK {
					k, _ = kernel.Do(k, s.other, shut(r.N))
				}
				s.k = k
				continue
			}
			i := draw(len(s.jobs))
			if s.jobs[i].Done {
				continue
			}
			s = s.step(t, i)
			if j := s.jobs[i]; j.Done && j.Exit == 0 {
				if _, is := there(s.k, j.Path); is {
					t.Fatal(row, j)
				}
			}
		}
		for i := range s.jobs {
			s = s.alone(t, i)
			if j := s.jobs[i]; j.Exit == 0 {
				good++
			}
			bad[s.jobs[i].E]++
		}
		if !kernel.Right(s.k) {
			t.Fatal(row)
		}
	}
	if good < 1000 || bad[api.ErrTries] == 0 || len(bad) < 6 {
		t.Error(good, bad)
	}
}
