package ensure_test

import (
	"fmt"
	"slices"
	"strings"
	"testing"

	"flagstone/api"
	"flagstone/change"
	"flagstone/disk"
	"flagstone/ensure"
	"flagstone/entry"
	"flagstone/kernel"
	"flagstone/mode"
	"flagstone/proc"
	"flagstone/walk"
)

// scene is a kernel and the jobs that run on it, each by a process of its own.
type scene struct {
	k    kernel.Kernel
	jobs []Job
}

// ground tells a kernel with a disk of what is told, in order: `a/` is a
// directory, `a` a file, `a>b` a link whose text is b.
func ground(t testing.TB, most int, things ...string) kernel.Kernel {
	t.Helper()
	k := proc.Boot(most, 100, 63)
	as := change.As{Who: 1}
	for _, x := range things {
		e := api.OK
		if name, text, is := strings.Cut(x, ">"); is {
			k.D, e = change.Symlink(k.D, as, text, name)
		} else if strings.HasSuffix(x, "/") {
			k.D, e = change.Mkdir(k.D, as, x, 61)
		} else {
			k.D, _, e = change.Make(k.D, as, x, 63)
		}
		if e != api.OK {
			t.Fatal(x, e)
		}
	}
	return k
}

// comes tells s with a process more, in the root, that has a job of argv.
func (s scene) comes(t testing.TB, who, umask int, argv ...string) scene {
	t.Helper()
	k, p, e := proc.Spawn(s.k, who, umask, 0)
	if e != api.OK {
		t.Fatal(e)
	}
	return scene{k, append(slices.Clone(s.jobs), ensure.Start(p, argv, nil))}
}

// step tells s behind the next call of job i.
func (s scene) step(i int) scene {
	j := s.jobs[i]
	k, r := kernel.Do(s.k, j.P, ensure.Ask(j))
	s.jobs = slices.Clone(s.jobs)
	s.jobs[i], s.k = ensure.Tell(j, r), k
	return s
}

// alone tells s after job i is done, with nobody between.
func (s scene) alone(t testing.TB, i int) scene {
	t.Helper()
	for range 1000 {
		if s.jobs[i].Done {
			return s
		}
		s = s.step(i)
	}
	t.Fatal("never done")
	return s
}

// orders goes through all orders in which the jobs of s can make their calls,
// and tells how each ends. What has come about another way is not gone through
// a second time.
func (s scene) orders(end func(scene)) {
	seen := map[string]bool{}
	var on func(s scene)
	on = func(s scene) {
		state := fmt.Sprint(s)
		if seen[state] {
			return
		}
		seen[state] = true
		over := true
		for i, j := range s.jobs {
			if !j.Done {
				over = false
				on(s.step(i))
			}
		}
		if over {
			end(s)
		}
	}
	on(s)
}

// isDir tells whether there is a directory of that path, for whoever may all.
func isDir(k kernel.Kernel, path string) bool {
	i, e := walk.Node(k.D, 0, 0, path, true)
	n, _ := disk.Get(k.D, i)
	return e == api.OK && n.Kind == disk.Dir
}

func outcome(j Job) string { return fmt.Sprint(j.Exit, j.E, j.Out) }

// grounds are disks of all kinds.
func grounds(t testing.TB) []kernel.Kernel {
	return []kernel.Kernel{
		ground(t, 90),
		ground(t, 90, "a/"),
		ground(t, 90, "a/", "a/b/", "a/b/c/", "a/d"),
		ground(t, 90, "a"),
		ground(t, 90, "a>b"),
		ground(t, 90, "a>b", "b>a"),
		ground(t, 90, "d/", "a>d", "d/b>/d"),
		ground(t, 90, "d/", "a>d/e", "b>d"),
		ground(t, 90, "a/", "a/b"),
		ground(t, 1), ground(t, 2), ground(t, 3), ground(t, 3, "a/"),
	}
}

var paths = texts{"a", "a/", "/a", "a/b", "a//b/", "/a/b/c", "a/../a/b", "a/./b", "..", "/", ".", "a/b/../c", "b/x", "b/../a"}

// P16.4: who ends with exit 0 has a directory there; what it made has the mode
// and the owner that it should; what was there is as it was.
func TestAlone(t *testing.T) {
	good := 0
	for at, k := range grounds(t) {
		for _, path := range paths {
			for _, flags := range []texts{{}, {"-p"}, {"-m75"}, {"-pm71"}, {"-pm0"}, {"-pm70"}} {
				for who := range 3 {
					s := scene{k: k}.comes(t, who, 12, append(flags[:len(flags):len(flags)], path)...)
					l := s.alone(t, 0)
					if !kernel.Right(l.k) {
						t.Fatal(at, path, flags)
					}
					j := l.jobs[0]
					if j.Exit == 0 {
						good++
					}
					if j.Exit == 0 != (j.E == api.OK) || j.Exit == 0 && !isDir(l.k, path) {
						t.Errorf("%d %q %q %d: %+v", at, path, flags, who, j)
					}
					onlyMore(t, s, l, who, j.Mode)
				}
			}
		}
	}
	if good < 900 {
		t.Error(good)
	}
}

// onlyMore holds that l is s with nothing but directories more, that who made.
func onlyMore(t *testing.T, s, l scene, who, m int) {
	t.Helper()
	for i, n := range l.k.D.Nodes {
		if i >= len(s.k.D.Nodes) {
			n.Names, n.Up = nil, 0
			if want := (disk.Node{Kind: disk.Dir, Mode: mode.Mask(m, 12), Owner: who, Links: 1}); fmt.Sprint(n) != fmt.Sprint(want) {
				t.Errorf("%+v, not %+v", n, want)
			}
			continue
		}
		was := s.k.D.Nodes[i]
		for _, x := range was.Names {
			if ino, is := entry.Find(n.Names, x.Name); !is || ino != x.Ino {
				t.Errorf("%q of %d is gone", x.Name, i)
			}
		}
		n.Names, was.Names = nil, nil
		if fmt.Sprint(n) != fmt.Sprint(was) {
			t.Errorf("%+v was %+v", n, was)
		}
	}
}

// P16.4: two with -p who ask for the same one, in each order of their calls,
// end as one does that is alone, and leave what that leaves.
func TestTwoDoNotDisturbEachOther(t *testing.T) {
	ends := 0
	for at, k := range grounds(t) {
		for _, path := range paths {
			for _, flags := range []string{"-p", "-pm71", "-pm0"} {
				s := scene{k: k}.comes(t, 1, 0, flags, path).comes(t, 1, 0, flags, path)
				one := s.alone(t, 0)
				s.orders(func(both scene) {
					ends++
					if a := outcome(one.jobs[0]); outcome(both.jobs[0]) != a || outcome(both.jobs[1]) != a {
						t.Errorf("%d %s %q: %v, not %s", at, flags, path, both.jobs, a)
					}
					if fmt.Sprint(both.k.D) != fmt.Sprint(one.k.D) {
						t.Errorf("%d %s %q: %+v, not %+v", at, flags, path, both.k.D, one.k.D)
					}
				})
			}
		}
	}
	if ends < 300 {
		t.Error(ends)
	}
}

// P16.4: of two without -p one is told that it made it, the other that it is there.
func TestTwoWithoutUps(t *testing.T) {
	s := scene{k: ground(t, 90, "a/")}.comes(t, 1, 0, "a/b").comes(t, 1, 0, "/a//b/").comes(t, 0, 0, "-p", "a/b")
	s.orders(func(l scene) {
		if l.jobs[0].Exit+l.jobs[1].Exit < 1 || l.jobs[2].Exit != 0 || !isDir(l.k, "a/b") {
			t.Error(l.jobs)
		}
		for i, out := range []string{"a/b: error 3", "/a//b/: error 3"} {
			if l.jobs[i].Exit == 1 && l.jobs[i].Out != out {
				t.Error(l.jobs)
			}
		}
	})
}

// P16.4: three that ask for what lies on each other's ways all have it.
func TestThree(t *testing.T) {
	for _, k := range []kernel.Kernel{ground(t, 90), ground(t, 90, "a/"), ground(t, 90, "d/", "a>d")} {
		s := scene{k: k}.comes(t, 1, 0, "-p", "a/b").comes(t, 1, 0, "-p", "a/c").comes(t, 1, 0, "-p", "a")
		s.orders(func(l scene) {
			for _, j := range l.jobs {
				if j.Exit != 0 || !isDir(l.k, j.Path) {
					t.Error(l.jobs)
				}
			}
		})
	}
}

// P16.3: it begins anew where a directory on the way is taken away, three times.
func TestTakenAway(t *testing.T) {
	for times := range 6 {
		s := scene{k: ground(t, 90)}.comes(t, 1, 0, "-p", "a/b").comes(t, 0, 0, "x")
		for range times {
			s = s.step(0) // a is made
			k, r := kernel.Do(s.k, 1, call{Kind: kernel.Rmdir, Fd: -1, Path: "a"})
			if r.E == api.OK {
				s.k = k
				s = s.step(0) // and is not there any more
			}
		}
		l := s.alone(t, 0)
		j := l.jobs[0]
		if times < 4 && (outcome(j) != outcome(Job{}) || j.Tries != times || !isDir(l.k, "a/b")) {
			t.Error(times, j)
		}
		if times > 3 && (j.Out != "a/b: error 32" || j.E != api.ErrTries || isDir(l.k, "a")) {
			t.Error(times, j)
		}
	}
}

// other tells a call by draws, that names come and, if it may, go by.
func other(draw func(int) int, mayRemove bool) call {
	kinds := []int{kernel.Mkdir, kernel.Symlink, kernel.Link, kernel.Open, kernel.Chmod, kernel.Rmdir, kernel.Unlink, kernel.Rename, kernel.Rmdir}
	if !mayRemove {
		kinds = kinds[:5]
	}
	name := func() string {
		return []string{"a", "b", "a/b", "a/b/c", "b/c", "c"}[draw(6)]
	}
	return call{
		Kind: kinds[draw(len(kinds))], Fd: -1, Fd2: -1, Flags: kernel.Create | kernel.ToRead, Mode: 63 - draw(3)/2*9,
		Path: name(), Path2: name(), Data: name(),
	}
}

// P16.4: jobs and others by draws: who ends with exit 0 has a directory there
// right then, and, if nobody removes anything, at the end, too.
func TestManyAndOthers(t *testing.T) {
	draw := drawing(164)
	good, bad := 0, map[string]int{}
	for row := range 3000 {
		s := scene{k: ground(t, 5+draw(20))}
		for range 1 + draw(4) {
			w := wish{[]string{"a", "a/b", "b/c/", "a/b/c", "/b", "a/../b", "c/x"}[draw(7)], draw(4) > 0, 63 - draw(5)/4*8}
			s = s.comes(t, draw(3), 0, w.argv()...)
		}
		for range 60 {
			if i := draw(len(s.jobs) + 1); i == len(s.jobs) {
				s.k, _ = kernel.Do(s.k, draw(i), other(draw, row%2 == 0))
			} else if !s.jobs[i].Done {
				s = s.step(i)
				if j := s.jobs[i]; j.Done && j.Exit == 0 && !isDir(s.k, j.Path) {
					t.Fatal(row, j)
				}
			}
		}
		for i := range s.jobs {
			s = s.alone(t, i)
			j := s.jobs[i]
			if j.Exit == 0 {
				good++
			} else {
				bad[fmt.Sprint(j.E)]++
			}
			if row%2 == 1 && j.Exit == 0 && !isDir(s.k, j.Path) {
				t.Fatal(row, j)
			}
		}
		if !kernel.Right(s.k) {
			t.Fatal(row)
		}
	}
	if good < 1000 || len(bad) < 6 {
		t.Error(good, bad)
	}
}
