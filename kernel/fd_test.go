package kernel_test

import (
	"math"
	"strings"
	"testing"

	"flagstone/api"
	"flagstone/disk"
	"flagstone/kernel"
)

// fdKinds are the kinds that are of a descriptor alone.
var fdKinds = []int{kernel.Close, kernel.Dup, kernel.Read, kernel.Write, kernel.List, kernel.Flock}

// bare tells a call of that kind, of a descriptor.
func bare(kind, fd int) call { return call{Kind: kind, Fd: fd} }

func read(fd, n int) call { return call{Kind: kernel.Read, Fd: fd, N: n} }

func write(fd int, s string) call { return call{Kind: kernel.Write, Fd: fd, Data: s} }

func lock(fd, kind int) call { return call{Kind: kernel.Flock, Fd: fd, N: kind} }

// P12.4: no such descriptor, -1 among them.
func TestNoDescriptor(t *testing.T) {
	k := house(t)
	for _, kind := range fdKinds {
		for _, fd := range append([]int{-1, 3, 7, 8}, far...) {
			for _, n := range []int{0, -1, 3} {
				refuses(t, k, 0, call{Kind: kind, Fd: fd, N: n, Data: "d"}, api.ErrBad)
				refuses(t, k, 2, call{Kind: kind, Fd: fd, N: n, Data: "d"}, api.ErrBad)
			}
		}
		refuses(t, k, 2, bare(kind, 0), api.ErrBad)
		refuses(t, k, 1, bare(kind, 2), api.ErrBad)
	}
}

// P12.4: the last descriptor of a description closes the node; others do not.
func TestClose(t *testing.T) {
	k := house(t)
	does(t, k, 0, bare(kernel.Close, 0), reply{}, func(k *kernel.Kernel) {
		k.T.Fds[0][0], k.T.Descs[0] = -1, desc{}
		k.D.Nodes[3].Open = 1
	})
	does(t, k, 0, bare(kernel.Close, 1), reply{}, func(k *kernel.Kernel) {
		k.T.Fds[0][1], k.T.Descs[1] = -1, desc{}
		k.D.Nodes[1].Open = 0
	})
	k = does(t, k, 1, bare(kernel.Close, 0), reply{}, func(k *kernel.Kernel) {
		k.T.Fds[1][0] = -1
		k.T.Descs[3].Refs = 1
	})
	refuses(t, k, 1, bare(kernel.Close, 0), api.ErrBad)
	k = does(t, k, 1, bare(kernel.Close, 1), reply{}, func(k *kernel.Kernel) {
		k.T.Fds[1][1], k.T.Descs[3] = -1, desc{}
		k.D.Nodes[3].Open = 1
	})
	refuses(t, k, 1, bare(kernel.Close, 1), api.ErrBad)
}

// P12.4: what nobody names goes, when the last one who has it open closes it.
func TestCloseSettles(t *testing.T) {
	k, _ := done(t, house(t), 0, at(kernel.Unlink, "a/f"))
	k, _ = done(t, k, 0, bare(kernel.Close, 0))
	k, _ = done(t, k, 1, bare(kernel.Close, 1))
	if n := k.D.Nodes[3]; n.Links != 0 || n.Open != 1 || n.Data != "hello" {
		t.Error(told(n))
	}
	does(t, k, 1, bare(kernel.Close, 0), reply{}, func(k *kernel.Kernel) {
		k.T.Fds[1][0], k.T.Descs[3] = -1, desc{}
		k.D.Nodes[3] = disk.Node{}
	})
	k = opened(t, house(t), 2, desc{Ino: 10, Read: true}) // where 2 still is
	k = does(t, k, 2, bare(kernel.Close, 0), reply{}, func(k *kernel.Kernel) {
		k.T.Fds[2][0], k.T.Descs[4] = -1, desc{}
		k.D.Nodes[10].Open = 1
	})
	k = opened(t, k, 0, desc{Ino: 10})
	k, _ = done(t, k, 2, at(kernel.Chdir, "/"))
	does(t, k, 0, bare(kernel.Close, 3), reply{}, func(k *kernel.Kernel) {
		k.T.Fds[0][3], k.T.Descs[4] = -1, desc{}
		k.D.Nodes[10] = disk.Node{}
	})
}

// P12.4
func TestDup(t *testing.T) {
	k := house(t)
	for fd := range 3 {
		does(t, k, 0, bare(kernel.Dup, fd), reply{N: 3}, func(k *kernel.Kernel) {
			k.T.Fds[0][3] = fd
			k.T.Descs[fd].Refs = 2
		})
	}
	for fd := 2; fd < 8; fd++ {
		k = does(t, k, 1, bare(kernel.Dup, fd-1), reply{N: fd}, func(k *kernel.Kernel) {
			k.T.Fds[1][fd] = 3
			k.T.Descs[3].Refs++
		})
	}
	refuses(t, k, 1, bare(kernel.Dup, 3), api.ErrMany)
	refuses(t, k, 1, bare(kernel.Dup, 8), api.ErrBad)
	k, _ = done(t, k, 1, bare(kernel.Close, 4))
	_, r := done(t, k, 1, bare(kernel.Dup, 7))
	if told(r) != told(reply{N: 4}) {
		t.Error(told(r))
	}
}

// goesOn tells what has description i read or written up to a place.
func goesOn(i, to int) func(k *kernel.Kernel) {
	return func(k *kernel.Kernel) { k.T.Descs[i].At = to }
}

// P12.4: what is read, and how far that goes.
func TestRead(t *testing.T) {
	k := house(t)
	for _, s := range []struct {
		at, n int
		want  string
	}{
		{1, 0, ""}, {1, 1, "e"}, {1, 3, "ell"}, {1, 4, "ello"}, {1, 5, "ello"}, {1, 999, "ello"}, {1, math.MaxInt, "ello"}, {0, 5, "hello"}, {0, math.MaxInt, "hello"},
		{4, 2, "o"}, {5, 1, ""}, {6, 1, ""}, {math.MaxInt, 1, ""}, {math.MaxInt, math.MaxInt, ""}, {math.MaxInt, 0, ""},
	} {
		k := edit(k, goesOn(0, s.at))
		does(t, k, 0, read(0, s.n), reply{S: s.want}, goesOn(0, s.at+len(s.want)))
	}
	k = does(t, k, 1, read(1, 2), reply{S: "he"}, goesOn(3, 2)) // another description begins by itself
	k = does(t, k, 1, read(0, 2), reply{S: "ll"}, goesOn(3, 4)) // two descriptors go on together
	k = does(t, k, 0, read(0, 9), reply{S: "ello"}, goesOn(0, 5))
	tells(t, k, 0, read(0, 9), reply{})
}

// P12.4: what can't be read.
func TestReadRefuses(t *testing.T) {
	k := house(t)
	refuses(t, k, 0, read(0, -1), api.ErrArg)
	refuses(t, k, 0, read(0, math.MinInt), api.ErrArg)
	refuses(t, k, 0, read(1, 1), api.ErrIsDir)
	refuses(t, k, 0, read(1, -1), api.ErrIsDir)
	for _, n := range []int{-1, 0, 1} {
		refuses(t, k, 0, read(2, n), api.ErrBad) // it is to be written
	}
	refuses(t, edit(k, goesOn(0, -1)), 0, read(0, 1), api.ErrArg)
	refuses(t, edit(k, goesOn(0, math.MinInt)), 0, read(0, 1), api.ErrArg)
	refuses(t, opened(t, k, 0, desc{Ino: 4, Read: true}), 0, read(3, 1), api.ErrArg) // a link
}

// P12.4: what is written, and how far that goes.
func TestWrite(t *testing.T) {
	k := house(t)
	for _, s := range []struct {
		at         int
		data, want string
	}{
		{0, "x", "xecret"}, {0, "", "secret"}, {2, "xyz", "sexyzt"}, {5, "xyz", "secrexyz"}, {6, "x", "secretx"}, {8, "x", "secret\x00\x00x"}, {0, "whispers", "whispers"},
		{math.MaxInt, "", "secret"}, {0, strings.Repeat("x", 178), strings.Repeat("x", 178)},
	} {
		k := edit(k, goesOn(2, s.at))
		does(t, k, 0, write(2, s.data), reply{N: len(s.data)}, func(k *kernel.Kernel) {
			k.D.Nodes[8].Data = s.want
			goesOn(2, s.at+len(s.data))(k)
		})
	}
	k = does(t, k, 1, read(0, 1), reply{S: "h"}, goesOn(3, 1)) // reading and writing go on together
	k = does(t, k, 1, write(1, "ipp"), reply{N: 3}, func(k *kernel.Kernel) {
		k.D.Nodes[3].Data = "hippo"
		goesOn(3, 4)(k)
	})
	does(t, k, 0, read(0, 9), reply{S: "ippo"}, goesOn(0, 5)) // who has it open finds what was written
}

// P12.4: what can't be written.
func TestWriteRefuses(t *testing.T) {
	k := house(t)
	for _, data := range []string{"", "x", strings.Repeat("x", 999)} {
		refuses(t, k, 0, write(0, data), api.ErrBad) // it is to be read
		refuses(t, k, 0, write(1, data), api.ErrBad)
		refuses(t, edit(k, goesOn(2, -1)), 0, write(2, data), api.ErrArg)
		refuses(t, opened(t, k, 0, desc{Ino: 1, Write: true}), 0, write(3, data), api.ErrIsDir)
		refuses(t, opened(t, k, 0, desc{Ino: 4, Write: true}), 0, write(3, data), api.ErrArg)
	}
	refuses(t, k, 0, write(2, strings.Repeat("x", 190)), api.ErrSpace)
	refuses(t, edit(k, goesOn(2, 1001)), 0, write(2, "x"), api.ErrSpace)
	refuses(t, edit(k, goesOn(2, math.MaxInt)), 0, write(2, "x"), api.ErrSpace)
}

// P12.4: the file is asked, not its mode: who has it open may go on.
func TestReadAndWriteAskNoMode(t *testing.T) {
	k, _ := done(t, house(t), 0, call{Kind: kernel.Chmod, Fd: -1, Path: "a/f", Mode: 0})
	does(t, k, 0, read(0, 1), reply{S: "e"}, goesOn(0, 2))
	refuses(t, k, 0, with("a/f", 1), api.ErrAccess)
}

// P12.4
func TestList(t *testing.T) {
	k := house(t)
	tells(t, k, 0, bare(kernel.List, 1), reply{L: []string{"b", "f"}})
	refuses(t, k, 0, bare(kernel.List, 0), api.ErrNotDir)
	refuses(t, k, 0, bare(kernel.List, 2), api.ErrBad) // it is to be written
	k = opened(t, k, 0, desc{Ino: 0, Read: true})
	tells(t, k, 0, bare(kernel.List, 3), reply{L: []string{"a", "l", "lf", "lo", "lx", "s"}})
	k = opened(t, k, 0, desc{Ino: 1, Write: true})
	refuses(t, k, 0, bare(kernel.List, 4), api.ErrBad)
	k = opened(t, k, 0, desc{Ino: 10, Read: true, At: 3})
	tells(t, k, 0, bare(kernel.List, 5), reply{})
	k = opened(t, k, 0, desc{Ino: 4, Read: true})
	refuses(t, k, 0, bare(kernel.List, 6), api.ErrNotDir)
	k = edit(k, func(k *kernel.Kernel) { k.D.Nodes[1].Mode = 0 }) // its mode is not asked any more
	tells(t, k, 0, bare(kernel.List, 1), reply{L: []string{"b", "f"}})
}

// P12.4: the answer is nobody else's.
func TestListIsNew(t *testing.T) {
	k := house(t)
	_, r := kernel.Do(k, 0, bare(kernel.List, 1))
	r.L[0] = "x"
	tells(t, k, 0, bare(kernel.List, 1), reply{L: []string{"b", "f"}})
}

// locks tells what gives description i a lock.
func locks(i, kind int) func(k *kernel.Kernel) {
	return func(k *kernel.Kernel) { k.T.Descs[i].Lock = kind }
}

// P12.4
func TestFlock(t *testing.T) {
	k := house(t)
	for fd := range 3 { // to be read or not, a file or not
		for kind := range 3 {
			does(t, k, 0, lock(fd, kind), reply{}, locks(fd, kind))
		}
	}
	for _, kind := range append([]int{-1, 3, 4}, far...) {
		refuses(t, k, 0, lock(0, kind), api.ErrArg)
		refuses(t, k, 0, lock(5, kind), api.ErrBad)
	}
	k = does(t, k, 0, lock(0, 1), reply{}, locks(0, 1))
	refuses(t, k, 1, lock(0, 2), api.ErrAgain)
	k = does(t, k, 1, lock(1, 1), reply{}, locks(3, 1))
	refuses(t, k, 0, lock(0, 2), api.ErrAgain)
	k = does(t, k, 0, lock(0, 0), reply{}, locks(0, 0))
	k = does(t, k, 1, lock(0, 2), reply{}, locks(3, 2))
	refuses(t, k, 0, lock(0, 1), api.ErrAgain)
	refuses(t, k, 0, lock(0, 2), api.ErrAgain)
	k, _ = done(t, k, 1, bare(kernel.Close, 0))
	refuses(t, k, 0, lock(0, 1), api.ErrAgain) // another descriptor refers to it
	k, _ = done(t, k, 1, bare(kernel.Close, 1))
	does(t, k, 0, lock(0, 2), reply{}, locks(0, 2))
}
