package kernel_test

import (
	"fmt"
	"math"
	"path"
	"slices"
	"strings"
	"testing"

	"flagstone/api"
	"flagstone/disk"
	"flagstone/entry"
	"flagstone/handle"
	"flagstone/kernel"
)

type (
	call  = kernel.Call
	reply = kernel.Reply
	desc  = handle.Desc
	proc  = kernel.Proc
)

// far are numbers that are no process, no descriptor and no kind.
var far = []int{math.MinInt, math.MinInt + 1, -1 << 32, -9, -2, 100, 1 << 31, 1 << 32, math.MaxInt - 1, math.MaxInt}

// thing is a node that is to be made, and its path from the root.
type thing struct {
	at   string
	node disk.Node
}

func dir(at string, mode, owner int) thing {
	return thing{at, disk.Node{Kind: disk.Dir, Mode: mode, Owner: owner}}
}

func file(at string, mode, owner int, data string) thing {
	return thing{at, disk.Node{Kind: disk.File, Mode: mode, Owner: owner, Data: data}}
}

func link(at, text string) thing {
	return thing{at, disk.Node{Kind: disk.Link, Mode: 63, Data: text}}
}

// hold tells a disk that holds these, the first as node 1, the next as node 2, ..
func hold(t testing.TB, these ...thing) disk.Disk {
	t.Helper()
	l := []disk.Node{{Kind: disk.Dir, Mode: 63, Links: 1}}
	numbers := map[string]int{".": 0}
	for _, x := range these {
		up, is := numbers[path.Dir(x.at)]
		if !is {
			t.Fatal(x.at)
		}
		numbers[x.at] = len(l)
		l[up].Names = entry.Put(l[up].Names, entry.Entry{Name: path.Base(x.at), Ino: len(l)})
		x.node.Links = 1
		if x.node.Kind == disk.Dir {
			x.node.Up = up
		}
		l = append(l, x.node)
	}
	return disk.Disk{Nodes: l, Most: 30, Room: 200}
}

// booted tells a right kernel of d and those processes, each of which is there.
func booted(t testing.TB, d disk.Disk, procs ...proc) kernel.Kernel {
	t.Helper()
	k := kernel.Kernel{D: d, T: handle.New(8), Procs: procs}
	for _, x := range procs {
		if x.Live {
			k.D.Nodes[x.Cwd].Open++
		}
	}
	return right(t, k)
}

// opened tells k where process p has one more description.
func opened(t testing.TB, k kernel.Kernel, p int, x desc) kernel.Kernel {
	t.Helper()
	table, _, e := handle.Open(k.T, p, x)
	if e != api.OK {
		t.Fatal(e)
	}
	k = own(k)
	k.T = table
	k.D.Nodes[x.Ino].Open++
	return right(t, k)
}

func right(t testing.TB, k kernel.Kernel) kernel.Kernel {
	t.Helper()
	if !kernel.Right(k) {
		t.Fatalf("not right: %s", told(k))
	}
	return k
}

// own tells k with memory of its own.
func own(k kernel.Kernel) kernel.Kernel {
	k.D.Nodes = slices.Clone(k.D.Nodes)
	for i := range k.D.Nodes {
		k.D.Nodes[i].Names = slices.Clone(k.D.Nodes[i].Names)
	}
	k.T.Descs = slices.Clone(k.T.Descs)
	k.T.Fds = slices.Clone(k.T.Fds)
	for p := range k.T.Fds {
		k.T.Fds[p] = slices.Clone(k.T.Fds[p])
	}
	k.Procs = slices.Clone(k.Procs)
	return k
}

// edit tells k with memory of its own, after what is done to it.
func edit(k kernel.Kernel, do func(k *kernel.Kernel)) kernel.Kernel {
	k = own(k)
	do(&k)
	return k
}

func told(x any) string { return fmt.Sprintf("%+v", x) }

// whole tells all of k, what stands behind the ends of its lists, too.
func whole(k kernel.Kernel) string {
	s := told(k.D.Nodes[:cap(k.D.Nodes)]) + told(k.T.Descs[:cap(k.T.Descs)]) + told(k.T.Fds[:cap(k.T.Fds)]) + told(k.Procs[:cap(k.Procs)])
	for _, n := range k.D.Nodes {
		s += told(n.Names[:cap(n.Names)])
	}
	for _, l := range k.T.Fds {
		s += told(l[:cap(l)])
	}
	return s
}

// roomy tells k with room behind the ends of its lists, that nobody may write to.
func roomy(k kernel.Kernel) kernel.Kernel {
	k.D.Nodes = append(make([]disk.Node, 0, len(k.D.Nodes)+3), k.D.Nodes...)
	for i, n := range k.D.Nodes {
		k.D.Nodes[i].Names = append(make([]entry.Entry, 0, len(n.Names)+3), n.Names...)
	}
	k.T.Descs = append(make([]desc, 0, len(k.T.Descs)+3), k.T.Descs...)
	k.Procs = append(make([]proc, 0, len(k.Procs)+3), k.Procs...)
	return k
}

// answers holds what a call tells against a reply, and a kernel.
func answers(t *testing.T, k kernel.Kernel, p int, c call, want kernel.Kernel, r reply) kernel.Kernel {
	t.Helper()
	k = roomy(k)
	before := whole(k)
	got, s := kernel.Do(k, p, c)
	if told(s) != told(r) {
		t.Errorf("%d: %+v: %+v; want %+v", p, c, s, r)
	}
	if told(got) != told(want) {
		t.Errorf("%d: %+v: of\n%+v\nto\n%+v\nwant\n%+v", p, c, k, got, want)
	}
	if after := whole(k); after != before {
		t.Errorf("%d: %+v: what is handed in is changed:\n%s\n%s", p, c, before, after)
	}
	return right(t, got)
}

// refuses holds that a call tells an error, and nothing else.
func refuses(t *testing.T, k kernel.Kernel, p int, c call, e api.Errno) {
	t.Helper()
	answers(t, k, p, c, k, reply{E: e})
}

// does holds that a call tells a reply, and does that to the kernel.
func does(t *testing.T, k kernel.Kernel, p int, c call, r reply, do func(k *kernel.Kernel)) kernel.Kernel {
	t.Helper()
	return answers(t, k, p, c, edit(k, do), r)
}

// tells holds that a call tells a reply, and leaves the kernel as it is.
func tells(t *testing.T, k kernel.Kernel, p int, c call, r reply) {
	t.Helper()
	answers(t, k, p, c, k, r)
}

// done tells k behind a call that tells no error, and its reply.
func done(t *testing.T, k kernel.Kernel, p int, c call) (kernel.Kernel, reply) {
	t.Helper()
	l, r := kernel.Do(k, p, c)
	if r.E != api.OK {
		t.Fatalf("%d: %+v: %d", p, c, r.E)
	}
	return right(t, l), r
}

// at tells a call of that kind, of a path from where the process is.
func at(kind int, path string) call { return call{Kind: kind, Fd: -1, Path: path} }

// with tells an Open of a path from where the process is.
func with(path string, flags int) call {
	return call{Kind: kernel.Open, Fd: -1, Path: path, Flags: flags, Mode: 63}
}

// name puts a name into a directory of k, or takes it out, if ino is below 0.
func name(k *kernel.Kernel, dir int, name string, ino int) {
	n := &k.D.Nodes[dir]
	if n.Names = entry.Drop(n.Names, name); ino >= 0 {
		n.Names = entry.Put(n.Names, entry.Entry{Name: name, Ino: ino})
	}
}

// house tells a right kernel of directories (1, 2), files (3, 8), links (4 to
// 7), a free node (9), and a directory without a name (10). Its processes:
// 0, of who 3, in the root, has open: 0 the file 3, 1 the directory 1, 2 the file
// 8, to be written; 1, of who 0, in node 2, has 3 open twice by one
// description; 2, of who 4, is in node 10; 3 is not live; 4, of who 5, may no
// more than others.
func house(t testing.TB) kernel.Kernel {
	d := hold(t, dir("a", 63, 0), dir("a/b", 61, 3), file("a/f", 52, 3, "hello"), link("l", "a"), link("lf", "a/f"), link("lx", "a/x"), link("lo", "lo"), file("s", 0, 3, "secret"))
	d.Nodes = append(d.Nodes, disk.Node{}, disk.Node{Kind: disk.Dir, Mode: 63})
	k := booted(t, d, proc{Who: 3, Umask: 2, Live: true}, proc{Umask: 63, Cwd: 2, Live: true}, proc{Who: 4, Cwd: 10, Live: true}, proc{Who: 7, Umask: -1, Cwd: -1}, proc{Who: 5, Umask: 9, Live: true})
	k = opened(t, k, 0, desc{Ino: 3, Read: true, At: 1})
	k = opened(t, k, 0, desc{Ino: 1, Read: true})
	k = opened(t, k, 0, desc{Ino: 8, Write: true})
	k = opened(t, k, 1, desc{Ino: 3, Read: true, Write: true})
	k.T, _, _ = handle.Dup(k.T, 1, 0)
	return right(t, k)
}

func TestNumbers(t *testing.T) {
	kinds := []int{kernel.Open, kernel.Close, kernel.Read, kernel.Write, kernel.Mkdir, kernel.Rmdir, kernel.Unlink, kernel.Rename, kernel.Link, kernel.Symlink, kernel.Readlink, kernel.Stat, kernel.List, kernel.Chdir, kernel.Flock, kernel.Chmod, kernel.Dup}
	for i, kind := range kinds {
		if kind != i+1 {
			t.Error(kinds)
		}
	}
	flags := []int{kernel.ToRead, kernel.ToWrite, kernel.Create, kernel.Excl, kernel.Trunc, kernel.OnlyDir, kernel.NoFollow}
	for i, flag := range flags {
		if flag != 1<<i {
			t.Error(flags)
		}
	}
}

// The chapter's example: Open of `a`, ToWrite, Create, Excl, twice.
func TestExample(t *testing.T) {
	k := booted(t, hold(t), proc{Live: true}, proc{Live: true})
	k = does(t, k, 0, with("a", 2|4|8), reply{}, func(k *kernel.Kernel) {
		k.D.Nodes = append(k.D.Nodes, disk.Node{Kind: disk.File, Mode: 63, Links: 1, Open: 1})
		name(k, 0, "a", 1)
		k.T.Descs = []desc{{Ino: 1, Write: true, Refs: 1}}
		k.T.Fds[0][0] = 0
	})
	refuses(t, k, 0, with("a", 2|4|8), api.ErrExists)
	refuses(t, k, 1, with("a", 2|4|8), api.ErrExists)
}

// P12.2: who is no process, or not live, is told so first, whatever he asks.
func TestNoProcess(t *testing.T) {
	k := house(t)
	for kind := -1; kind <= 18; kind++ {
		for _, p := range append([]int{-1, 3, 5, 6, 7, 8}, far...) {
			refuses(t, k, p, call{Kind: kind, Fd: -1, Fd2: -1, Path: "a", Path2: "n", Data: "d"}, api.ErrArg)
			refuses(t, k, p, call{Kind: kind, Fd: 7}, api.ErrArg)
			refuses(t, booted(t, hold(t)), p, call{Kind: kind, Fd: -1, Path: "a"}, api.ErrArg)
		}
	}
}

// P12.2
func TestNoKind(t *testing.T) {
	for _, kind := range append([]int{-1, 0, 18, 19, 33, 1<<32 + 1}, far...) {
		for p := range 5 {
			refuses(t, house(t), p, call{Kind: kind, Fd: -1, Path: "a", Data: "d"}, api.ErrArg)
		}
	}
}

// pathKinds are the kinds that walk a path from a base.
var pathKinds = []int{kernel.Open, kernel.Mkdir, kernel.Rmdir, kernel.Unlink, kernel.Rename, kernel.Link, kernel.Symlink, kernel.Readlink, kernel.Stat, kernel.Chdir, kernel.Chmod}

// P12.2: what is wrong with the base comes first of what can go wrong.
func TestBaseComesFirst(t *testing.T) {
	k := opened(t, house(t), 0, desc{Ino: 4, Read: true}) // a link that leads to a directory is none
	for _, kind := range pathKinds {
		for _, path := range []string{"", "/", "/a", "x/y", "a\x00", "lo", strings.Repeat("x", 13)} {
			c := call{Kind: kind, Fd2: -1, Path: path, Path2: path, Flags: 1}
			for _, fd := range append([]int{4, 5, 7, 8}, far...) {
				c.Fd = fd
				refuses(t, k, 0, c, api.ErrBad)
			}
			for _, fd := range []int{0, 2, 3} {
				c.Fd = fd
				refuses(t, k, 0, c, api.ErrNotDir)
			}
			c.Fd = 1 // another process has that, but for this one it is the file 3
			refuses(t, k, 1, c, api.ErrNotDir)
			refuses(t, k, 2, c, api.ErrBad)
		}
	}
}

// P12.2: a path goes from where the process is, or from what is open, by whoever calls.
func TestBaseOfEach(t *testing.T) {
	k := house(t)
	stat := func(p, fd int, path string, ino int) {
		t.Helper()
		if _, r := kernel.Do(k, p, call{Kind: kernel.Stat, Fd: fd, Path: path}); r.E != api.OK || r.I.Ino != ino {
			t.Errorf("%d: %d %q: %+v; want %d", p, fd, path, r, ino)
		}
	}
	stat(0, -1, "a/f", 3)
	stat(0, -1, ".", 0)
	stat(0, 1, "f", 3)
	stat(0, 1, ".", 1)
	stat(0, 1, "..", 0)
	stat(0, 1, "/s", 8)
	stat(1, -1, ".", 2)
	stat(1, -1, "../f", 3)
	stat(2, -1, ".", 10)
	stat(2, -1, "..", 0)
	for ino, n := range k.D.Nodes { // any description of a directory will do, to be read or not
		if n.Kind == disk.Dir {
			k = opened(t, k, 4, desc{Ino: ino, At: -5, Lock: 9})
			stat(4, handle.Count(k.T, 4)-1, ".", ino)
		}
	}
	k = own(k)
	k.D.Nodes[1].Mode = 56 // others may not go through
	refuses(t, k, 4, at(kernel.Stat, "a/f"), api.ErrAccess)
	refuses(t, k, 4, call{Kind: kernel.Stat, Fd: 1, Path: "f"}, api.ErrAccess)
	stat(1, -1, "/a/f", 3) // 0 may all
}

// P12.2: of modes, Umask's bits are taken off, and who makes a thing owns it.
func TestModesAreMasked(t *testing.T) {
	for _, s := range []struct{ mode, umask, want int }{{63, 0, 63}, {63, 2, 61}, {63, 63, 0}, {0, 0, 0}, {54, 18, 36}, {9, 8, 1}, {-1, 2, 61}, {64 + 7, 1, 6}, {math.MinInt, 0, 0}, {math.MaxInt, 9, 54}} {
		k := booted(t, hold(t), proc{Who: 6, Umask: s.umask, Live: true})
		add := func(n disk.Node) func(k *kernel.Kernel) {
			return func(k *kernel.Kernel) {
				k.D.Nodes = append(k.D.Nodes, n)
				name(k, 0, "n", 1)
			}
		}
		does(t, k, 0, call{Kind: kernel.Mkdir, Fd: -1, Path: "n", Mode: s.mode}, reply{}, add(disk.Node{Kind: disk.Dir, Mode: s.want, Owner: 6, Links: 1}))
		does(t, k, 0, call{Kind: kernel.Symlink, Fd: -1, Path: "n", Mode: s.mode, Data: "d"}, reply{}, add(disk.Node{Kind: disk.Link, Mode: 63, Owner: 6, Links: 1, Data: "d"}))
		does(t, k, 0, call{Kind: kernel.Open, Fd: -1, Path: "n", Mode: s.mode, Flags: 5}, reply{}, func(k *kernel.Kernel) {
			add(disk.Node{Kind: disk.File, Mode: s.want, Owner: 6, Links: 1, Open: 1})(k)
			k.T.Descs = []desc{{Ino: 1, Read: true, Refs: 1}}
			k.T.Fds[0][0] = 0
		})
	}
}

// R4: who goes on from one kernel in two ways has two kernels.
func TestTwoWaysOn(t *testing.T) {
	k := roomy(house(t))
	before := whole(k)
	for _, c := range everyCall() {
		for _, d := range everyCall() {
			a, _ := kernel.Do(k, 0, c)
			s := told(a)
			kernel.Do(k, 0, d)
			b, _ := kernel.Do(a, 0, d)
			kernel.Do(b, 1, c)
			if told(a) != s {
				t.Errorf("%+v, %+v: one way changes the other", c, d)
			}
		}
	}
	if whole(k) != before {
		t.Error("what is handed in is changed")
	}
}

// everyCall tells a call of each kind that process 0 of house may make.
func everyCall() []call {
	return []call{
		with("a/f", 1), with("n", 6), with("a/f", 2|16), at(kernel.Stat, "a"), at(kernel.Mkdir, "m"), at(kernel.Rmdir, "a/b"), at(kernel.Unlink, "s"),
		{Kind: kernel.Rename, Fd: -1, Fd2: 1, Path: "s", Path2: "f"}, {Kind: kernel.Link, Fd: -1, Path: "s", Path2: "z"}, {Kind: kernel.Symlink, Fd: -1, Path: "y", Data: "s"},
		at(kernel.Readlink, "l"), at(kernel.Chdir, "a"), {Kind: kernel.Chmod, Fd: -1, Path: "s", Mode: 9}, {Kind: kernel.Close, Fd: 2}, {Kind: kernel.Read, N: 3},
		{Kind: kernel.Write, Fd: 2, Data: "new"}, {Kind: kernel.List, Fd: 1}, {Kind: kernel.Flock, N: 2}, {Kind: kernel.Dup, Fd: 2},
	}
}

// What everyCall says is so: none of these calls goes wrong.
func TestEveryCall(t *testing.T) {
	seen := map[int]bool{}
	for _, c := range everyCall() {
		done(t, house(t), 0, c)
		seen[c.Kind] = true
	}
	if len(seen) != 17 {
		t.Error(seen)
	}
}

// R1: no call panics, whatever the kernel is.
func TestNothingPanics(t *testing.T) {
	wrong := house(t)
	wrong.T.Descs = []desc{{Ino: 99, Read: true, Write: true, Refs: 1}, {Ino: -1, Read: true, Refs: 2}, {Ino: 9, At: -1, Write: true, Read: true, Refs: 1}}
	wrong.T.Fds = [][]int{{0, 1, 2, -2, 9, -1}, nil}
	wrong.Procs = []proc{{Live: true, Cwd: 99}, {Live: true, Cwd: -1}, {Live: true, Cwd: 3, Umask: -1}, {Live: true, Cwd: 9}}
	empty := kernel.Kernel{Procs: []proc{{Live: true}, {Live: true, Cwd: -1}}}
	rootless := house(t)
	rootless.D.Nodes = rootless.D.Nodes[:2]
	for _, k := range []kernel.Kernel{{}, wrong, empty, rootless, {D: wrong.D, Procs: wrong.Procs}, {T: wrong.T, Procs: wrong.Procs}} {
		if kernel.Right(k) {
			t.Errorf("right: %+v", k)
		}
		for p := range 5 {
			for fd := -2; fd < 9; fd++ {
				for _, c := range everyCall() {
					c.Fd = fd
					kernel.Do(k, p, c)
					c.Fd, c.Fd2 = -1, fd
					kernel.Do(k, p, c)
				}
			}
		}
	}
}
