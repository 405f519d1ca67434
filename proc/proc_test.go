package proc_test

import (
	"fmt"
	"math"
	"slices"
	"testing"

	"flagstone/api"
	"flagstone/disk"
	"flagstone/entry"
	"flagstone/handle"
	"flagstone/kernel"
	"flagstone/proc"
)

type (
	call   = kernel.Call
	reply  = kernel.Reply
	person = kernel.Proc
	desc   = handle.Desc
	step   = proc.Step
)

// far are numbers that are no process, no node and no umask.
var far = []int{math.MinInt, math.MinInt + 1, -1 << 32, -9, -2, -1, 100, 1 << 31, 1 << 32, math.MaxInt - 1, math.MaxInt}

func told(x any) string { return fmt.Sprintf("%+v", x) }

// own tells k with memory of its own, and room behind the ends of its lists,
// that nobody may write to.
func own(k kernel.Kernel) kernel.Kernel {
	k.D.Nodes = roomy(k.D.Nodes)
	for i := range k.D.Nodes {
		k.D.Nodes[i].Names = roomy(k.D.Nodes[i].Names)
	}
	k.T.Descs = roomy(k.T.Descs)
	k.T.Fds = roomy(k.T.Fds)
	for p := range k.T.Fds {
		k.T.Fds[p] = roomy(k.T.Fds[p])
	}
	k.Procs = roomy(k.Procs)
	return k
}

func roomy[T any](l []T) []T { return append(make([]T, 0, len(l)+3), l...) }

// edit tells k with memory of its own, after what is done to it.
func edit(k kernel.Kernel, do func(k *kernel.Kernel)) kernel.Kernel {
	k = own(k)
	do(&k)
	return k
}

// whole tells all of k, what stands behind the ends of its lists, too.
func whole(k kernel.Kernel) string {
	s := told(k.D.Nodes[:cap(k.D.Nodes)]) + told(k.T.Descs[:cap(k.T.Descs)]) + told(k.T.Fds[:cap(k.T.Fds)]) + told(k.Procs[:cap(k.Procs)])
	for _, n := range k.D.Nodes {
		s += told(n.Names[:cap(n.Names)])
	}
	for _, l := range k.T.Fds {
		s += told(l[:cap(l)])
	}
	return s
}

func right(t testing.TB, k kernel.Kernel) kernel.Kernel {
	t.Helper()
	if !kernel.Right(k) {
		t.Fatalf("not right: %s", told(k))
	}
	return k
}

// same holds a kernel against the one that it has to be.
func same(t testing.TB, got, want kernel.Kernel) {
	t.Helper()
	if told(got) != told(want) {
		t.Errorf("got\n%+v\nwant\n%+v", got, want)
	}
}

// spawn holds what Spawn tells, and that it leaves alone what it is handed.
func spawn(t testing.TB, k kernel.Kernel, x person, want kernel.Kernel, p int, e api.Errno) kernel.Kernel {
	t.Helper()
	k = own(k)
	before := whole(k)
	got, q, f := proc.Spawn(k, x.Who, x.Umask, x.Cwd)
	if q != p || f != e {
		t.Errorf("Spawn of %+v: %d, %d; want %d, %d", x, q, f, p, e)
	}
	same(t, got, want)
	if whole(k) != before {
		t.Error("Spawn changes what it is handed")
	}
	return right(t, got)
}

// comes holds that Spawn tells a process more.
func comes(t testing.TB, k kernel.Kernel, x person) kernel.Kernel {
	t.Helper()
	x.Live = true
	want := edit(k, func(k *kernel.Kernel) {
		k.Procs = append(k.Procs, x)
		k.D.Nodes[x.Cwd].Open++
	})
	return spawn(t, k, x, want, len(k.Procs), api.OK)
}

// stays holds that Spawn tells an error.
func stays(t testing.TB, k kernel.Kernel, x person, e api.Errno) {
	t.Helper()
	spawn(t, k, x, k, 0, e)
}

// kill holds what Kill tells, and that it leaves alone what it is handed.
func kill(t testing.TB, k kernel.Kernel, p int, want kernel.Kernel, e api.Errno) kernel.Kernel {
	t.Helper()
	k = own(k)
	before := whole(k)
	got, f := proc.Kill(k, p)
	if f != e {
		t.Errorf("Kill of %d: %d; want %d", p, f, e)
	}
	same(t, got, want)
	if whole(k) != before {
		t.Error("Kill changes what it is handed")
	}
	return right(t, got)
}

// goes holds that Kill does that to the kernel, and that the process is not live any more.
func goes(t testing.TB, k kernel.Kernel, p int, do func(k *kernel.Kernel)) kernel.Kernel {
	t.Helper()
	want := edit(k, do)
	want.Procs[p].Live = false
	return kill(t, k, p, want, api.OK)
}

// done tells k behind a call that tells no error.
func done(t testing.TB, k kernel.Kernel, p int, c call) kernel.Kernel {
	t.Helper()
	l, r := kernel.Do(k, p, c)
	if r.E != api.OK {
		t.Fatalf("%d: %+v: %d", p, c, r.E)
	}
	return right(t, l)
}

// at tells a call of that kind, of a path from where the process is.
func at(kind int, path string) call { return call{Kind: kind, Fd: -1, Path: path, Mode: 63} }

// with tells an Open of a path from where the process is.
func with(path string, flags int) call {
	return call{Kind: kernel.Open, Fd: -1, Path: path, Flags: flags, Mode: 63}
}

func lock(fd, kind int) call { return call{Kind: kernel.Flock, Fd: fd, N: kind} }

// named tells a node that is in the root by that name, as number i.
func named(d *disk.Disk, i int, name string, n disk.Node) {
	n.Links = 1
	d.Nodes[i] = n
	d.Nodes[0].Names = entry.Put(d.Nodes[0].Names, entry.Entry{Name: name, Ino: i})
}

// yard tells a right kernel of nodes: 1 a directory that nobody but 0 may
// enter, 2 a file, 3 a link to node 1, 4 a free one, 5 a directory without a
// name. Its processes: 0, of who 3, in the root; 1, of who 0, in node 5; 2,
// that is not live.
func yard(t testing.TB) kernel.Kernel {
	k := kernel.Kernel{D: disk.New(9, 90, 63), T: handle.New(8)}
	k.D.Nodes = append(k.D.Nodes, make([]disk.Node, 5)...)
	named(&k.D, 1, "a", disk.Node{Kind: disk.Dir})
	named(&k.D, 2, "f", disk.Node{Kind: disk.File, Mode: 63, Data: "hey"})
	named(&k.D, 3, "l", disk.Node{Kind: disk.Link, Mode: 63, Data: "a"})
	k.D.Nodes[5] = disk.Node{Kind: disk.Dir, Mode: 63, Open: 1}
	k.D.Nodes[0].Open = 1
	k.Procs = []person{{Who: 3, Live: true}, {Cwd: 5, Umask: 7, Live: true}, {Who: 9, Umask: 99, Cwd: -4}}
	return right(t, k)
}

// The chapter's example: Spawn of a kernel that is just booted is 0.
func TestExample(t *testing.T) {
	_, p, e := proc.Spawn(proc.Boot(9, 90, 63), 1, 2, 0)
	if p != 0 || e != api.OK {
		t.Error(p, e)
	}
}

// P13.1: a root, eight processes without descriptors that are not there yet;
// or nothing at all.
func TestBoot(t *testing.T) {
	for _, most := range append([]int{0, 1, 2, 99, 101}, far...) {
		for _, room := range append([]int{0, 1, 999, 1000, 1001}, far...) {
			for _, mode := range append([]int{0, 1, 62, 63, 64}, far...) {
				want := kernel.Kernel{}
				if most >= 1 && most <= 100 && room >= 0 && room <= 1000 && mode >= 0 && mode <= 63 {
					want.D = disk.Disk{Nodes: []disk.Node{{Kind: disk.Dir, Mode: mode, Links: 1}}, Most: most, Room: room}
					for range 8 {
						want.T.Fds = append(want.T.Fds, []int{-1, -1, -1, -1, -1, -1, -1, -1})
					}
				}
				got := proc.Boot(most, room, mode)
				same(t, got, want)
				if kernel.Right(got) != (len(want.T.Fds) > 0) {
					t.Errorf("Boot(%d, %d, %d): %+v", most, room, mode, got)
				}
			}
		}
	}
}

// P13.1: a kernel that is booted is nobody else's.
func TestBootIsNew(t *testing.T) {
	k := proc.Boot(9, 90, 63)
	k.T.Fds[0][0] = 7
	k.D.Nodes[0].Mode = 0
	if l := right(t, proc.Boot(9, 90, 63)); l.D.Nodes[0].Mode != 63 {
		t.Error(told(l))
	}
}

// P13.2: processes that come, in any directory, of anybody, with each umask.
func TestSpawn(t *testing.T) {
	k := yard(t)
	for _, i := range []int{0, 1, 5} { // whoever may enter it, and whether it has a name
		for _, who := range append([]int{0, 1, 3}, far...) {
			for umask := range 64 {
				comes(t, k, person{Who: who, Umask: umask, Cwd: i})
			}
		}
	}
	k = comes(t, comes(t, k, person{Cwd: 1}), person{Who: 2, Cwd: 1})
	if k.D.Nodes[1].Open != 2 || len(k.Procs) != 5 {
		t.Error(told(k))
	}
}

// P13.2: who has come has nothing open, and may call at once.
func TestWhoHasComeMayCall(t *testing.T) {
	k := comes(t, yard(t), person{Who: 4, Umask: 9, Cwd: 0})
	if handle.Count(k.T, 3) != 0 {
		t.Error(told(k.T))
	}
	k = done(t, k, 3, with("n", 6))
	if n := k.D.Nodes[4]; n.Owner != 4 || n.Mode != 54 || n.Open != 1 || handle.Count(k.T, 3) != 1 {
		t.Error(told(n))
	}
	k = comes(t, yard(t), person{Cwd: 5})
	if _, r := kernel.Do(k, 3, at(kernel.Stat, ".")); r.I.Ino != 5 {
		t.Error(told(r))
	}
}

// P13.2: no umask.
func TestSpawnNoUmask(t *testing.T) {
	for _, umask := range append([]int{64, 65, 127, 128}, far...) {
		for _, i := range []int{-1, 0, 1, 2, 3, 4, 5, 6, 100} { // ErrArg comes ahead of what is wrong with the node
			stays(t, yard(t), person{Umask: umask, Cwd: i}, api.ErrArg)
		}
	}
}

// P13.2: no node, or no directory.
func TestSpawnNoDirectory(t *testing.T) {
	for _, i := range append([]int{4, 6, 7, 8, 9}, far...) {
		stays(t, yard(t), person{Cwd: i}, api.ErrNone)
	}
	for _, i := range []int{2, 3} { // a link that leads to a directory is none
		stays(t, yard(t), person{Cwd: i}, api.ErrNotDir)
		stays(t, yard(t), person{Who: 3, Umask: 63, Cwd: i}, api.ErrNotDir)
	}
}

// P13.2: there are eight at most, those that are not live among them, and that comes first.
func TestSpawnMany(t *testing.T) {
	k := proc.Boot(9, 90, 63)
	for p := range 8 {
		k = comes(t, k, person{Who: p, Umask: p})
		if len(k.Procs) != p+1 {
			t.Fatal(told(k))
		}
	}
	for {
		for _, umask := range []int{-1, 0, 64} {
			for _, i := range []int{-1, 0, 1} {
				stays(t, k, person{Umask: umask, Cwd: i}, api.ErrMany)
			}
		}
		p := slices.IndexFunc(k.Procs, func(x person) bool { return x.Live })
		if p < 0 {
			break
		}
		k = goes(t, k, p, func(k *kernel.Kernel) { k.D.Nodes[0].Open-- })
	}
	k = comes(t, goes(t, yard(t), 0, func(k *kernel.Kernel) { k.D.Nodes[0].Open = 0 }), person{})
	if len(k.Procs) != 4 || k.Procs[0].Live { // numbers are not used again
		t.Error(told(k.Procs))
	}
}

// P13.3: who is no process, or not live, can't be killed.
func TestKillNobody(t *testing.T) {
	k := yard(t)
	for _, p := range append([]int{2, 3, 7, 8}, far...) {
		kill(t, k, p, k, api.ErrArg)
	}
	k = goes(t, k, 0, func(k *kernel.Kernel) { k.D.Nodes[0].Open = 0 })
	kill(t, k, 0, k, api.ErrArg)
	for _, p := range append([]int{0, 7, 8}, far...) {
		k := proc.Boot(9, 90, 63)
		kill(t, k, p, k, api.ErrArg)
	}
}

// P13.3: where it was is open once less, and goes, if nobody else has it.
func TestKillLeavesWhereItWas(t *testing.T) {
	k := yard(t)
	goes(t, k, 0, func(k *kernel.Kernel) { k.D.Nodes[0].Open = 0 }) // the root stays
	goes(t, k, 1, func(k *kernel.Kernel) { k.D.Nodes[5] = disk.Node{} })
	k = comes(t, comes(t, k, person{Cwd: 5}), person{Cwd: 1})
	goes(t, k, 4, func(k *kernel.Kernel) { k.D.Nodes[1].Open = 0 }) // it has a name
	k = goes(t, k, 1, func(k *kernel.Kernel) { k.D.Nodes[5].Open = 1 })
	k = goes(t, k, 3, func(k *kernel.Kernel) { k.D.Nodes[5] = disk.Node{} })
	if k.Procs[1] != (person{Cwd: 5, Umask: 7}) || k.Procs[3] != (person{Cwd: 5}) { // but for Live they are what they were
		t.Error(told(k.Procs))
	}
}

// P13.3: all eight descriptors are closed, wherever they are.
func TestKillClosesAll(t *testing.T) {
	full := yard(t)
	for range 8 {
		full = done(t, full, 0, with("f", 1))
	}
	for set := range 256 { // of each set of descriptors
		k := full
		for fd := range 8 {
			if set>>fd&1 == 0 {
				k = done(t, k, 0, call{Kind: kernel.Close, Fd: fd})
			}
		}
		goes(t, k, 0, func(k *kernel.Kernel) {
			k.T = handle.New(8)
			k.T.Descs = make([]desc, 8)
			k.D.Nodes[0].Open, k.D.Nodes[2].Open = 0, 0
		})
	}
}

// P13.3: a description goes with the last descriptor that refers to it.
func TestKillOfWhoHasOneTwice(t *testing.T) {
	k := done(t, yard(t), 0, with("f", 3))
	k = done(t, k, 0, call{Kind: kernel.Dup})
	k = done(t, k, 0, call{Kind: kernel.Dup})
	goes(t, k, 0, func(k *kernel.Kernel) {
		k.T = handle.New(8)
		k.T.Descs = []desc{{}}
		k.D.Nodes[0].Open, k.D.Nodes[2].Open = 0, 0
	})
	k = right(t, edit(k, func(k *kernel.Kernel) { // another process refers to it, too
		k.T.Fds[1][5] = 0
		k.T.Descs[0].Refs = 4
		k.T.Descs[0].At = 2
	}))
	k = goes(t, k, 0, func(k *kernel.Kernel) {
		k.T.Fds[0] = handle.New(1).Fds[0]
		k.T.Descs[0].Refs = 1
		k.D.Nodes[0].Open = 0
	})
	goes(t, k, 1, func(k *kernel.Kernel) {
		k.T = handle.New(8)
		k.T.Descs = []desc{{}}
		k.D.Nodes[2].Open = 0
		k.D.Nodes[5] = disk.Node{}
	})
}

// P13.3: what nobody names goes with who has it open; others keep what they have.
func TestKillSettles(t *testing.T) {
	k := done(t, yard(t), 0, with("f", 3))
	k = done(t, k, 0, with("n", 6))
	k = done(t, k, 1, with("/f", 1))
	for _, name := range []string{"f", "n"} {
		k = done(t, k, 0, at(kernel.Unlink, name))
	}
	if disk.Used(k.D) != 6 || disk.Bytes(k.D) != 4 {
		t.Fatal(told(k))
	}
	first := goes(t, k, 0, func(k *kernel.Kernel) {
		k.T.Fds[0] = handle.New(1).Fds[0]
		k.T.Descs[0], k.T.Descs[1] = desc{}, desc{}
		k.D.Nodes[0].Open, k.D.Nodes[2].Open = 0, 1
		k.D.Nodes[4] = disk.Node{}
	})
	if _, r := kernel.Do(first, 1, call{Kind: kernel.Read, N: 9}); r.S != "hey" {
		t.Error(told(r))
	}
	last := goes(t, first, 1, func(k *kernel.Kernel) {
		k.T = handle.New(8)
		k.T.Descs = make([]desc, 3)
		k.D.Nodes[2], k.D.Nodes[5] = disk.Node{}, disk.Node{}
	})
	if disk.Used(last.D) != 3 || disk.Bytes(last.D) != 1 {
		t.Error(told(last))
	}
}

// P13.3: who is in a directory without a name, and has that open, holds it twice.
func TestKillOfWhoIsInWhatItHasOpen(t *testing.T) {
	k := done(t, yard(t), 1, with(".", 1))
	k = done(t, k, 1, with(".", 1))
	if k.D.Nodes[5].Open != 3 {
		t.Fatal(told(k))
	}
	goes(t, k, 1, func(k *kernel.Kernel) {
		k.T = handle.New(8)
		k.T.Descs = make([]desc, 2)
		k.D.Nodes[5] = disk.Node{}
	})
}

// P13.3: any node may be open, in any way.
func TestKillOfWhoHasAnythingOpen(t *testing.T) {
	for i, n := range yard(t).D.Nodes {
		if n.Kind == disk.Free {
			continue
		}
		for _, x := range []desc{{}, {At: -3}, {At: math.MaxInt, Read: true}, {Write: true, Lock: 2}, {Lock: -7}} {
			x.Ino = i
			k := yard(t)
			k.T, _, _ = handle.Open(k.T, 1, x)
			k.D.Nodes[i].Open++
			goes(t, right(t, k), 1, func(k *kernel.Kernel) {
				k.T = handle.New(8)
				k.T.Descs = make([]desc, 1)
				k.D.Nodes[i].Open--
				k.D.Nodes[5] = disk.Node{}
			})
		}
	}
}

// P13.5: what who is killed held by a lock, others may have at once.
func TestKillLetsGoOfLocks(t *testing.T) {
	for _, kind := range []int{1, 2} {
		k := comes(t, yard(t), person{Who: 3})
		for _, p := range []int{0, 3} {
			k = done(t, k, p, with("f", 1))
		}
		k = done(t, k, 0, lock(0, kind))
		k = done(t, k, 0, call{Kind: kernel.Dup})
		if _, r := kernel.Do(k, 3, lock(0, 2)); r.E != api.ErrAgain {
			t.Fatal(told(r))
		}
		k, e := proc.Kill(k, 0)
		if e != api.OK {
			t.Fatal(e)
		}
		done(t, k, 3, lock(0, 2))
	}
}

// P13.3: who is not live makes no calls any more.
func TestWhoIsKilledMayNotCall(t *testing.T) {
	k, _ := proc.Kill(yard(t), 0)
	for kind := -1; kind < 19; kind++ {
		for fd := -1; fd < 3; fd++ {
			if l, r := kernel.Do(k, 0, call{Kind: kind, Fd: fd, Fd2: -1, Path: "f", Path2: "g", Flags: 1}); told(r) != told(reply{E: api.ErrArg}) || told(l) != told(k) {
				t.Errorf("%d: %+v", kind, r)
			}
		}
	}
}

// R4: who goes on from one kernel in two ways has two kernels.
func TestTwoWaysOn(t *testing.T) {
	k := done(t, yard(t), 0, with("f", 3))
	ways := []func(k kernel.Kernel) kernel.Kernel{
		func(k kernel.Kernel) kernel.Kernel { k, _, _ = proc.Spawn(k, 5, 5, 0); return k },
		func(k kernel.Kernel) kernel.Kernel { k, _, _ = proc.Spawn(k, 6, 6, 1); return k },
		func(k kernel.Kernel) kernel.Kernel { k, _ = proc.Kill(k, 0); return k },
		func(k kernel.Kernel) kernel.Kernel { k, _ = proc.Kill(k, 1); return k },
		func(k kernel.Kernel) kernel.Kernel { k, _ = proc.Play(k, rounds()); return k },
	}
	for i, one := range ways {
		for j, other := range ways {
			for _, begin := range []kernel.Kernel{own(k), one(own(k)), other(own(k))} {
				a := one(begin)
				s := told(a)
				other(one(a))
				other(begin)
				if told(a) != s || told(one(begin)) != s {
					t.Errorf("%d, %d: one way changes the other", i, j)
				}
			}
		}
	}
}

// R1: no call panics, whatever the kernel is.
func TestNothingPanics(t *testing.T) {
	wrong := edit(yard(t), func(k *kernel.Kernel) {
		k.T.Descs = []desc{{Ino: 99, Refs: 1}, {Ino: -1, Refs: 2}, {Ino: 4, Refs: -1}}
		k.T.Fds = [][]int{{0, 1, 2, -2, 9, -1}, nil}
		k.Procs = []person{{Live: true, Cwd: 99}, {Live: true, Cwd: -1}, {Live: true, Cwd: 4}, {Live: true, Umask: -1, Cwd: 2}}
	})
	crowd := edit(yard(t), func(k *kernel.Kernel) { k.Procs = make([]person, 9) })
	for _, k := range []kernel.Kernel{{}, wrong, crowd, {D: wrong.D, Procs: wrong.Procs}, {T: wrong.T, Procs: wrong.Procs}} {
		if kernel.Right(k) {
			t.Errorf("right: %+v", k)
		}
		for _, i := range append([]int{0, 1, 2, 3, 4, 5, 6, 8, 9}, far...) {
			proc.Spawn(k, i, 0, i)
			proc.Kill(k, i)
			proc.Play(k, []step{{i, with("f", 1)}, {i, call{Kind: kernel.Close}}, {0, call{Kind: kernel.Read, Fd: i}}})
		}
	}
}
