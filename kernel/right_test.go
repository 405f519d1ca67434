package kernel_test

import (
	"math"
	"math/rand"
	"testing"

	"flagstone/disk"
	"flagstone/handle"
	"flagstone/kernel"
)

// isRight holds what Right tells of house, after what is done to it.
func isRight(t *testing.T, want bool, do func(k *kernel.Kernel)) {
	t.Helper()
	k := edit(house(t), do)
	before := whole(k)
	if got := kernel.Right(k); got != want {
		t.Errorf("Right of %s = %v", told(k), got)
	}
	if whole(k) != before {
		t.Error("what is handed in is changed")
	}
}

// P12.1: disk and table, each by itself.
func TestRightHasARightDiskAndTable(t *testing.T) {
	isRight(t, true, func(*kernel.Kernel) {})
	isRight(t, false, func(k *kernel.Kernel) { k.D.Nodes[8].Links++ })
	isRight(t, false, func(k *kernel.Kernel) { k.D.Nodes[2].Mode = 64 })
	isRight(t, false, func(k *kernel.Kernel) { k.D.Room = 3 })
	isRight(t, false, func(k *kernel.Kernel) { k.D.Most = 10 })
	isRight(t, false, func(k *kernel.Kernel) { k.T.Descs[0].Refs++ })
	isRight(t, false, func(k *kernel.Kernel) { k.T.Fds[7] = k.T.Fds[7][:7] })
	isRight(t, false, func(k *kernel.Kernel) { k.T.Fds[0][7] = -2 })
	if kernel.Right(kernel.Kernel{}) || kernel.Right(kernel.Kernel{T: handle.New(8)}) || kernel.Right(kernel.Kernel{D: disk.New(3, 3, 3)}) {
		t.Error("right without a disk, or a table")
	}
}

// P12.1: the table has eight processes, and there are at most as many.
func TestRightHasEightProcesses(t *testing.T) {
	for n := range 10 {
		k := kernel.Kernel{D: disk.New(3, 3, 3), T: handle.New(8)}
		for range n {
			k.Procs = append(k.Procs, proc{Live: true})
		}
		k.D.Nodes[0].Open = n
		if got := kernel.Right(k); got != (n <= 8) {
			t.Errorf("%d processes: %v", n, got)
		}
		k.Procs, k.D.Nodes[0].Open = make([]proc, n), 0
		if got := kernel.Right(k); got != (n <= 8) {
			t.Errorf("%d processes that are not live: %v", n, got)
		}
		k.Procs, k.T = nil, handle.New(n)
		if got := kernel.Right(k); got != (n == 8) {
			t.Errorf("a table of %d: %v", n, got)
		}
	}
	isRight(t, false, func(k *kernel.Kernel) { k.T.Fds = append(k.T.Fds, handle.New(1).Fds[0]) })
	isRight(t, false, func(k *kernel.Kernel) { k.T.Fds = k.T.Fds[:7] })
}

// P12.1: who is not live, or not there, has nothing open.
func TestRightOfWhoIsNotLive(t *testing.T) {
	for p := range 8 {
		isRight(t, p < 3 || p == 4, func(k *kernel.Kernel) { // one more descriptor of the file 3
			k.T.Fds[p][6] = 0
			k.T.Descs[0].Refs++
		})
	}
	isRight(t, false, func(k *kernel.Kernel) { // as if it had no directory any more, but what was open
		k.Procs[0].Live = false
		k.D.Nodes[0].Open--
	})
	isRight(t, true, func(k *kernel.Kernel) { // 4 has nothing open
		k.Procs[4].Live = false
		k.D.Nodes[0].Open--
	})
	isRight(t, true, func(k *kernel.Kernel) { k.Procs[3] = proc{Who: math.MinInt, Umask: 64, Cwd: math.MaxInt} })
	isRight(t, true, func(k *kernel.Kernel) { k.Procs[3] = proc{Cwd: 3} })
	isRight(t, true, func(k *kernel.Kernel) { k.Procs[3] = proc{} })
}

// P12.1: where a live process is, and its umask.
func TestRightOfWhoIsLive(t *testing.T) {
	for _, i := range append([]int{-1, 0, 1, 2, 3, 4, 8, 9, 10, 11, 12}, far...) {
		is := i >= 0 && i <= 10 && house(t).D.Nodes[i].Kind == disk.Dir
		isRight(t, is, func(k *kernel.Kernel) { // one more who is live, in node i
			k.Procs[3] = proc{Cwd: i, Live: true}
			if i >= 0 && i <= 10 {
				k.D.Nodes[i].Open++
			}
		})
	}
	for _, umask := range append([]int{-1, 0, 1, 8, 62, 63, 64, 127}, far...) {
		isRight(t, umask >= 0 && umask <= 63, func(k *kernel.Kernel) { k.Procs[0].Umask = umask })
		isRight(t, umask >= 0 && umask <= 63, func(k *kernel.Kernel) { k.Procs[4].Umask = umask })
		isRight(t, true, func(k *kernel.Kernel) { k.Procs[0].Who = umask })
	}
}

// P12.1: what is open is a node.
func TestRightOfWhatIsOpen(t *testing.T) {
	for _, i := range append([]int{-1, 0, 1, 2, 3, 4, 5, 8, 9, 10, 11, 12}, far...) {
		isRight(t, i >= 0 && i <= 10 && i != 9, func(k *kernel.Kernel) { // any node that is not free may be open
			k.T.Descs = append(k.T.Descs, desc{Ino: i, Refs: 1})
			k.T.Fds[2][3] = len(k.T.Descs) - 1
			if i >= 0 && i <= 10 {
				k.D.Nodes[i].Open++
			}
		})
	}
	isRight(t, true, func(k *kernel.Kernel) { k.T.Descs = append(k.T.Descs, desc{}) }) // nothing refers to it, so node 0 is not open by it
	isRight(t, true, func(k *kernel.Kernel) { k.T.Descs[0] = desc{Ino: 3, At: math.MinInt, Lock: -9, Write: true, Refs: 1} })
}

// P12.1: each node is open as often as it says.
func TestRightCountsOpens(t *testing.T) {
	for i := range house(t).D.Nodes {
		for _, n := range []int{-1, 1, 2, 9, math.MaxInt} {
			isRight(t, false, func(k *kernel.Kernel) { k.D.Nodes[i].Open += n })
		}
	}
	isRight(t, false, func(k *kernel.Kernel) { k.D.Nodes[1].Open, k.D.Nodes[2].Open = 0, 2 })
	isRight(t, false, func(k *kernel.Kernel) { k.Procs[0].Cwd = 1 })
	isRight(t, true, func(k *kernel.Kernel) {
		k.Procs[0].Cwd = 1
		k.D.Nodes[0].Open--
		k.D.Nodes[1].Open++
	})
	isRight(t, true, func(k *kernel.Kernel) { // descriptions count, not what refers to them
		k.T.Fds[0][5], k.T.Fds[2][0] = 0, 0
		k.T.Descs[0].Refs += 2
	})
}

// rightByWords tells whether k is right, by pairs of who has what open.
func rightByWords(k kernel.Kernel) bool {
	if !disk.Right(k.D) || !handle.Right(k.T) || len(k.T.Fds) != 8 || len(k.Procs) > 8 {
		return false
	}
	open := map[[2]int]int{} // by description, or by process behind them, which node
	for p, l := range k.T.Fds {
		live := p < len(k.Procs) && k.Procs[p].Live
		for _, i := range l {
			if i == -1 {
				continue
			}
			if !live {
				return false
			}
			open[[2]int{0, i}] = k.T.Descs[i].Ino
		}
		if !live {
			continue
		}
		x := k.Procs[p]
		if x.Cwd < 0 || x.Cwd >= len(k.D.Nodes) || k.D.Nodes[x.Cwd].Kind != disk.Dir || x.Umask != x.Umask&63 {
			return false
		}
		open[[2]int{1, p}] = x.Cwd
	}
	for _, ino := range open {
		if ino < 0 || ino >= len(k.D.Nodes) || k.D.Nodes[ino].Kind == disk.Free {
			return false
		}
	}
	for i, n := range k.D.Nodes {
		for _, ino := range open {
			if ino == i {
				n.Open--
			}
		}
		if n.Open != 0 {
			return false
		}
	}
	return true
}

// P12.1: of many kernels that are right, or nearly so, held against a second way.
func TestRightAgainstASecondWay(t *testing.T) {
	r := rand.New(rand.NewSource(12))
	found := map[bool]int{}
	for range 40000 {
		k := own(house(t))
		for range 1 + r.Intn(3) {
			spoil(&k, r.Intn)
		}
		want := rightByWords(k)
		found[want]++
		if kernel.Right(k) != want {
			t.Fatalf("Right of %s = %v", told(k), !want)
		}
	}
	if found[true] < 2000 || found[false] < 2000 {
		t.Error(found)
	}
}

// spoil changes one thing of k, or two that may go together.
func spoil(k *kernel.Kernel, draw func(n int) int) {
	p, i, fd := draw(len(k.Procs)), draw(len(k.D.Nodes)), draw(8)
	switch draw(8) {
	case 0:
		k.D.Nodes[i].Open += draw(3) - 1
	case 1:
		k.Procs[p].Live = !k.Procs[p].Live
	case 2:
		k.Procs[p].Cwd = draw(13) - 1
	case 3:
		k.Procs[p].Umask = []int{-1, 0, 63, 64}[draw(4)]
	case 4:
		k.T.Descs[draw(len(k.T.Descs))].Ino = draw(13) - 1
	case 5: // somebody goes elsewhere
		if c := k.Procs[p].Cwd; c >= 0 && c < len(k.D.Nodes) {
			k.D.Nodes[c].Open--
		}
		k.Procs[p].Cwd = i
		k.D.Nodes[i].Open++
	case 6: // somebody refers to one more
		p, x := draw(8), draw(len(k.T.Descs))
		if k.T.Fds[p][fd] == -1 {
			k.T.Fds[p][fd] = x
			k.T.Descs[x].Refs++
		}
	case 7: // somebody opens one more
		p = draw(8)
		if k.T.Fds[p][fd] == -1 {
			k.T.Descs = append(k.T.Descs, desc{Ino: i, Refs: 1})
			k.T.Fds[p][fd] = len(k.T.Descs) - 1
			k.D.Nodes[i].Open += draw(5) / 4
			k.D.Nodes[i].Open++
		}
	}
}
