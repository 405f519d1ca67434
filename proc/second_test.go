package proc_test

import (
	"fmt"
	"math/rand"
	"strings"
	"testing"

	"flagstone/api"
	"flagstone/disk"
	"flagstone/flock"
	"flagstone/handle"
	"flagstone/kernel"
	"flagstone/proc"
)

// counted tells k with all that is counted anew: how many descriptors refer to
// each description, how often each node is open; and without what nobody has.
func counted(k kernel.Kernel) kernel.Kernel {
	k = own(k)
	for i := range k.T.Descs {
		k.T.Descs[i].Refs = 0
	}
	for i := range k.D.Nodes {
		k.D.Nodes[i].Open = 0
	}
	for _, l := range k.T.Fds {
		for _, i := range l {
			if i >= 0 {
				k.T.Descs[i].Refs++
			}
		}
	}
	for i, x := range k.T.Descs {
		if x.Refs == 0 {
			k.T.Descs[i] = desc{}
			continue
		}
		k.D.Nodes[x.Ino].Open++
	}
	for _, x := range k.Procs {
		if x.Live {
			k.D.Nodes[x.Cwd].Open++
		}
	}
	for i, n := range k.D.Nodes {
		if i > 0 && n.Links == 0 && n.Open == 0 {
			k.D.Nodes[i] = disk.Node{}
		}
	}
	return k
}

// spawned tells by a second way what Spawn has to tell.
func spawned(k kernel.Kernel, who, umask, at int) (kernel.Kernel, int, api.Errno) {
	kind := disk.Free
	if at >= 0 && at < len(k.D.Nodes) {
		kind = k.D.Nodes[at].Kind
	}
	for _, x := range []struct {
		is bool
		e  api.Errno
	}{{len(k.Procs) == 8, 13}, {umask&63 != umask, 1}, {kind == 0, 2}, {kind != 2, 4}} {
		if x.is {
			return k, 0, x.e
		}
	}
	l := own(k)
	l.Procs = append(l.Procs, person{Who: who, Umask: umask, Cwd: at, Live: true})
	return counted(l), len(k.Procs), api.OK
}

// killed tells by a second way what Kill has to tell.
func killed(k kernel.Kernel, p int) (kernel.Kernel, api.Errno) {
	for i, x := range k.Procs {
		if i == p && x.Live {
			k = own(k)
			k.Procs[p].Live = false
			k.T.Fds[p] = handle.New(1).Fds[0]
			return counted(k), api.OK
		}
	}
	return k, api.ErrArg
}

// somewhere tells a short path by draws.
func somewhere(draw func(n int) int) string {
	path := []string{"", "", "/", "../"}[draw(4)] + []string{"a", "b", "c", "."}[draw(4)]
	if draw(2) == 0 {
		path += "/" + []string{"a", "b", "c"}[draw(3)]
	}
	return path
}

// some tells a step by draws.
func some(draw func(n int) int, procs int) step {
	kinds := []int{1, 1, 1, 1, 1, 2, 4, 5, 5, 5, 6, 6, 7, 7, 7, 8, 9, 10, 12, 13, 14, 14, 14, 15, 15, 17, 17}
	c := call{
		Kind: kinds[draw(len(kinds))], Fd: -1, Fd2: -1, N: draw(3), Mode: 63 - draw(6)/5*draw(64),
		Path: somewhere(draw), Path2: somewhere(draw), Data: somewhere(draw),
	}
	for i, often := range []int{6, 6, 6, 1, 2, 1, 1} { // of each flag
		if draw(9) < often {
			c.Flags |= 1 << i
		}
	}
	switch c.Kind {
	case 2, 4, 13, 15, 17:
		c.Fd = draw(4)
	}
	if draw(9) == 0 {
		c.Fd = draw(9) - 2
	}
	return step{draw(procs+1) - draw(20)/19, c}
}

// deed is what a call of this layer made of a kernel, and what it told.
type deed struct {
	k kernel.Kernel
	s string
}

// spawns, kills and plays do a call by draws, both ways.
func spawns(k kernel.Kernel, draw func(n int) int) (got, want deed) {
	who, umask := draw(3), []int{0, 0, 0, 2, 63, 64, -1}[draw(7)]
	at := draw(len(k.D.Nodes)+2)*draw(2) - draw(12)/11
	l, p, e := proc.Spawn(k, who, umask, at)
	m, q, f := spawned(k, who, umask, at)
	return deed{l, fmt.Sprint("spawn ", e, " ", p)}, deed{m, fmt.Sprint("spawn ", f, " ", q)}
}

func kills(t *testing.T, k kernel.Kernel, draw func(n int) int) (got, want deed) {
	t.Helper()
	p := draw(len(k.Procs)+2) - 1
	l, e := proc.Kill(k, p)
	m, f := killed(k, p)
	if e == api.OK {
		holdsNothing(t, k, l, p)
	}
	return deed{l, fmt.Sprint("kill ", e)}, deed{m, fmt.Sprint("kill ", f)}
}

func plays(k kernel.Kernel, draw func(n int) int) (got, want deed) {
	var steps []step
	for range draw(16) {
		steps = append(steps, some(draw, len(k.Procs)))
	}
	l, r := proc.Play(k, steps)
	m, s := k, []reply(nil)
	for _, x := range steps {
		var y reply
		m, y = kernel.Do(m, x.P, x.C)
		s = append(s, y)
	}
	return deed{l, "play " + told(r)}, deed{m, "play " + told(s)}
}

// one does one call of this layer by draws, holds it against the second way,
// and tells the kernel, and what was told.
func one(t *testing.T, k kernel.Kernel, draw func(n int) int) (kernel.Kernel, string) {
	t.Helper()
	var got, want deed
	before := whole(k)
	switch draw(12) {
	case 0, 1, 2:
		got, want = spawns(k, draw)
	case 3:
		got, want = kills(t, k, draw)
	default:
		got, want = plays(k, draw)
	}
	if got.s != want.s {
		t.Fatalf("%s; want %s; of\n%+v", got.s, want.s, k)
	}
	if told(got.k) != told(want.k) {
		t.Fatalf("%s: of\n%+v\nto\n%+v\nwant\n%+v", got.s, k, got.k, want.k)
	}
	if whole(k) != before {
		t.Fatalf("%s: what is handed in is changed", got.s)
	}
	return right(t, got.k), got.s
}

// holdsNothing holds what follows of p that is killed (P13.5): it has no
// descriptor, what it alone had is not open, no lock of that is left, and it
// made no node free that another one has.
func holdsNothing(t *testing.T, k, got kernel.Kernel, p int) {
	t.Helper()
	if handle.Count(got.T, p) != 0 || got.Procs[p].Live {
		t.Fatalf("%d has descriptors, or lives: %+v", p, got)
	}
	others := map[int]bool{}
	for q, l := range k.T.Fds {
		for _, i := range l {
			if q != p && i >= 0 {
				others[i] = true
			}
		}
	}
	for i, x := range got.T.Descs {
		if others[i] && x.Lock != k.T.Descs[i].Lock || !others[i] && x != (desc{}) {
			t.Fatalf("%d is killed: description %d is %+v; of\n%+v", p, i, x, k)
		}
	}
	for i, n := range k.D.Nodes {
		had := n.Kind != disk.Free && (n.Links > 0 || i == 0)
		for j := range others {
			had = had || k.T.Descs[j].Ino == i
		}
		for q, x := range k.Procs {
			had = had || q != p && x.Live && x.Cwd == i
		}
		if has := got.D.Nodes[i].Kind != disk.Free; has != had {
			t.Fatalf("%d is killed: node %d is there: %v; of\n%+v", p, i, has, k)
		}
	}
	if flock.Fair(k.T) && !flock.Fair(got.T) {
		t.Fatalf("%d is killed: not fair: %+v", p, got.T)
	}
}

// share has another process refer to a description, now and then, as a right
// table may have it.
func share(t *testing.T, k kernel.Kernel, draw func(n int) int) kernel.Kernel {
	t.Helper()
	p, fd := draw(8), draw(8)
	if draw(4) > 0 || p >= len(k.Procs) || !k.Procs[p].Live || k.T.Fds[p][fd] >= 0 {
		return k
	}
	for i, x := range k.T.Descs {
		if x.Refs > 0 && draw(2) == 0 {
			return right(t, edit(k, func(k *kernel.Kernel) {
				k.T.Fds[p][fd] = i
				k.T.Descs[i].Refs++
			}))
		}
	}
	return k
}

// P13.1 to P13.5: long rows of processes that come, call and go.
func TestLongRowsAgainstASecondWay(t *testing.T) {
	seen := map[string]int{}
	for seed := range 300 {
		r := rand.New(rand.NewSource(int64(seed)))
		k := right(t, proc.Boot(3+r.Intn(12), 40, 63))
		for range 60 {
			before := disk.Used(k.D)
			var did string
			k, did = one(t, share(t, own(k), r.Intn), r.Intn)
			if did == "kill 0" && disk.Used(k.D) < before {
				did = "kill and free"
			}
			if !strings.HasPrefix(did, "play") {
				seen[did]++
			}
		}
	}
	for _, did := range []string{"spawn 0 0", "spawn 0 7", "spawn 1 0", "spawn 2 0", "spawn 4 0", "spawn 13 0", "kill 0", "kill 1", "kill and free"} {
		if seen[did] < 30 {
			t.Errorf("too few of %s: %v", did, seen)
		}
	}
}

// P13.2: each umask, each node, of kernels that have more and more processes.
func TestSpawnAgainstASecondWay(t *testing.T) {
	k := yard(t)
	for len(k.Procs) <= 8 {
		for umask := -2; umask < 67; umask++ {
			for at := -2; at < 9; at++ {
				l, p, e := proc.Spawn(k, at, umask, at)
				m, q, f := spawned(k, at, umask, at)
				if p != q || e != f || told(l) != told(m) {
					t.Fatalf("Spawn(%d, %d): %d, %d; want %d, %d: of\n%+v\nto\n%+v\nwant\n%+v", umask, at, p, e, q, f, k, l, m)
				}
			}
		}
		if len(k.Procs) == 8 {
			return
		}
		k = comes(t, k, person{Cwd: len(k.Procs) % 2})
	}
}
