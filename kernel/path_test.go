package kernel_test

import (
	"fmt"
	"strings"
	"testing"

	"flagstone/api"
	"flagstone/disk"
	"flagstone/kernel"
)

// P12.5
func TestMkdir(t *testing.T) {
	k := house(t)
	made := func(up, mode, owner int) func(k *kernel.Kernel) {
		return func(k *kernel.Kernel) {
			k.D.Nodes[9] = disk.Node{Kind: disk.Dir, Mode: mode, Owner: owner, Links: 1, Up: up}
			name(k, up, "n", 9)
		}
	}
	does(t, k, 0, call{Kind: kernel.Mkdir, Fd: -1, Path: "n", Mode: 63}, reply{}, made(0, 61, 3))
	does(t, k, 0, call{Kind: kernel.Mkdir, Fd: 1, Path: "n/", Mode: 42}, reply{}, made(1, 40, 3))
	does(t, k, 1, call{Kind: kernel.Mkdir, Fd: -1, Path: "n", Mode: 63}, reply{}, made(2, 0, 0))
	does(t, k, 2, call{Kind: kernel.Mkdir, Fd: -1, Path: "../n", Mode: 63}, reply{}, made(0, 63, 4))
	refuses(t, k, 2, at(kernel.Mkdir, "n"), api.ErrNone)
	refuses(t, k, 0, at(kernel.Mkdir, "a"), api.ErrExists)
	refuses(t, k, 4, at(kernel.Mkdir, "a/b/n"), api.ErrAccess)
	refuses(t, k, 0, at(kernel.Mkdir, strings.Repeat("n", 13)), api.ErrLong)
}

// P12.5
func TestUnlink(t *testing.T) {
	k := house(t)
	does(t, k, 0, at(kernel.Unlink, "a/f"), reply{}, func(k *kernel.Kernel) { // it is open
		name(k, 1, "f", -1)
		k.D.Nodes[3].Links = 0
	})
	does(t, k, 0, at(kernel.Unlink, "lf"), reply{}, func(k *kernel.Kernel) { // not followed
		name(k, 0, "lf", -1)
		k.D.Nodes[5] = disk.Node{}
	})
	does(t, k, 0, call{Kind: kernel.Unlink, Fd: 1, Path: "f"}, reply{}, func(k *kernel.Kernel) {
		name(k, 1, "f", -1)
		k.D.Nodes[3].Links = 0
	})
	refuses(t, k, 0, at(kernel.Unlink, "a"), api.ErrIsDir)
	refuses(t, k, 0, at(kernel.Unlink, "n"), api.ErrNone)
	k.D.Nodes[1].Mode = 61
	refuses(t, k, 4, at(kernel.Unlink, "a/f"), api.ErrAccess)
}

// P12.5
func TestRmdir(t *testing.T) {
	k := house(t)
	k = does(t, k, 0, at(kernel.Rmdir, "a/b"), reply{}, func(k *kernel.Kernel) { // 1 is there
		name(k, 1, "b", -1)
		k.D.Nodes[2].Links, k.D.Nodes[2].Up = 0, 0
	})
	refuses(t, k, 1, at(kernel.Mkdir, "n"), api.ErrNone)
	refuses(t, k, 0, at(kernel.Rmdir, "a/b"), api.ErrNone)
	refuses(t, k, 0, at(kernel.Rmdir, "a"), api.ErrFull)
	refuses(t, k, 0, at(kernel.Rmdir, "s"), api.ErrNotDir)
	refuses(t, k, 0, at(kernel.Rmdir, "."), api.ErrArg)
	k, _ = done(t, k, 0, call{Kind: kernel.Mkdir, Fd: 1, Path: "n"})
	does(t, k, 0, call{Kind: kernel.Rmdir, Fd: 1, Path: "n"}, reply{}, func(k *kernel.Kernel) {
		name(k, 1, "n", -1)
		k.D.Nodes[9] = disk.Node{}
	})
}

// P12.5: the mode is not masked, and the last link is followed.
func TestChmod(t *testing.T) {
	k := house(t)
	for _, mode := range []int{63, 0, 2, 18, 64 + 5, -1} {
		does(t, k, 0, call{Kind: kernel.Chmod, Fd: -1, Path: "lf", Mode: mode}, reply{}, func(k *kernel.Kernel) { k.D.Nodes[3].Mode = mode & 63 })
		does(t, k, 0, call{Kind: kernel.Chmod, Fd: 1, Path: "b", Mode: mode}, reply{}, func(k *kernel.Kernel) { k.D.Nodes[2].Mode = mode & 63 })
		does(t, k, 1, call{Kind: kernel.Chmod, Fd: -1, Path: ".", Mode: mode}, reply{}, func(k *kernel.Kernel) { k.D.Nodes[2].Mode = mode & 63 })
	}
	refuses(t, k, 0, at(kernel.Chmod, "a"), api.ErrAccess)
	refuses(t, k, 4, at(kernel.Chmod, "s"), api.ErrAccess)
	refuses(t, k, 0, at(kernel.Chmod, "lx"), api.ErrNone)
}

// P12.5: Data is the text, Path the name.
func TestSymlink(t *testing.T) {
	k := house(t)
	c := call{Kind: kernel.Symlink, Fd: -1, Path: "n", Data: "a/f"}
	does(t, k, 0, c, reply{}, func(k *kernel.Kernel) {
		k.D.Nodes[9] = disk.Node{Kind: disk.Link, Mode: 63, Owner: 3, Links: 1, Data: "a/f"}
		name(k, 0, "n", 9)
	})
	c.Fd = 1
	does(t, k, 0, c, reply{}, func(k *kernel.Kernel) {
		k.D.Nodes[9] = disk.Node{Kind: disk.Link, Mode: 63, Owner: 3, Links: 1, Data: "a/f"}
		name(k, 1, "n", 9)
	})
	refuses(t, k, 0, call{Kind: kernel.Symlink, Fd: -1, Path: "n"}, api.ErrNone)
	refuses(t, k, 0, call{Kind: kernel.Symlink, Fd: -1, Path: "a", Data: strings.Repeat("x", 101)}, api.ErrLong)
	refuses(t, k, 0, call{Kind: kernel.Symlink, Fd: -1, Path: "n/", Data: "a"}, api.ErrNotDir)
	refuses(t, k, 0, call{Kind: kernel.Symlink, Fd: -1, Path: "lx", Data: "a"}, api.ErrExists)
	refuses(t, k, 0, call{Kind: kernel.Symlink, Fd: 0, Path: "n"}, api.ErrNotDir) // the base ahead of the text
}

// P12.5: Path is the old name, Path2 the new one; Fd is the base of both.
func TestLink(t *testing.T) {
	k := house(t)
	c := call{Kind: kernel.Link, Fd: 1, Fd2: 7, Path: "f", Path2: "n"}
	does(t, k, 0, c, reply{}, func(k *kernel.Kernel) {
		k.D.Nodes[3].Links = 2
		name(k, 1, "n", 3)
	})
	does(t, k, 0, call{Kind: kernel.Link, Fd: -1, Path: "lx", Path2: "n"}, reply{}, func(k *kernel.Kernel) { // not followed
		k.D.Nodes[6].Links = 2
		name(k, 0, "n", 6)
	})
	refuses(t, k, 0, call{Kind: kernel.Link, Fd: -1, Path: "n", Path2: "s"}, api.ErrNone)
	refuses(t, k, 0, call{Kind: kernel.Link, Fd: -1, Path: "a", Path2: "n"}, api.ErrIsDir)
	refuses(t, k, 0, call{Kind: kernel.Link, Fd: -1, Path: "s", Path2: "a"}, api.ErrExists)
	refuses(t, k, 2, call{Kind: kernel.Link, Fd: -1, Path: "/s", Path2: "n"}, api.ErrNone)
}

// P12.5: each path from its own base.
func TestRename(t *testing.T) {
	k := house(t)
	does(t, k, 0, call{Kind: kernel.Rename, Fd: -1, Fd2: 1, Path: "s", Path2: "n"}, reply{}, func(k *kernel.Kernel) {
		name(k, 0, "s", -1)
		name(k, 1, "n", 8)
	})
	does(t, k, 0, call{Kind: kernel.Rename, Fd: 1, Fd2: -1, Path: "b", Path2: "n"}, reply{}, func(k *kernel.Kernel) {
		name(k, 1, "b", -1)
		name(k, 0, "n", 2)
		k.D.Nodes[2].Up = 0
	})
	does(t, k, 0, call{Kind: kernel.Rename, Fd: -1, Fd2: 1, Path: "s", Path2: "f"}, reply{}, func(k *kernel.Kernel) { // what was there is open
		name(k, 0, "s", -1)
		name(k, 1, "f", 8)
		k.D.Nodes[3].Links = 0
	})
	does(t, k, 0, call{Kind: kernel.Rename, Fd: -1, Fd2: 1, Path: "s", Path2: "../lf"}, reply{}, func(k *kernel.Kernel) {
		name(k, 0, "s", -1)
		name(k, 0, "lf", 8)
		k.D.Nodes[5] = disk.Node{}
	})
	refuses(t, k, 0, call{Kind: kernel.Rename, Fd: -1, Fd2: 1, Path: "a", Path2: "b/n"}, api.ErrInto)
	refuses(t, k, 0, call{Kind: kernel.Rename, Fd: -1, Fd2: 1, Path: "n", Path2: "f"}, api.ErrNone)
	refuses(t, k, 0, call{Kind: kernel.Rename, Fd: -1, Fd2: -1, Path: ".", Path2: "n"}, api.ErrArg)
	refuses(t, k, 2, call{Kind: kernel.Rename, Fd: -1, Fd2: -1, Path: "/s", Path2: "n"}, api.ErrNone)
}

// P12.5: both bases come first, the old name's ahead of the new one's.
func TestRenameHasTwoBases(t *testing.T) {
	k := house(t)
	e := map[int]api.Errno{-1: 0, 1: 0, 0: api.ErrNotDir, 2: api.ErrNotDir, 3: api.ErrBad, 8: api.ErrBad, -2: api.ErrBad}
	for fd := range e {
		for fd2 := range e {
			want := e[fd]
			if want == api.OK {
				want = e[fd2]
			}
			if want == api.OK {
				want = api.ErrNone
			}
			for _, path := range []string{"n", "", "x/y"} {
				refuses(t, k, 0, call{Kind: kernel.Rename, Fd: fd, Fd2: fd2, Path: path, Path2: "a\x00"}, want)
			}
		}
	}
}

// P12.5
func TestReadlink(t *testing.T) {
	k := house(t)
	for path, text := range map[string]string{"l": "a", "lf": "a/f", "lx": "a/x", "lo": "lo", "/lf": "a/f", "l/../lx": "a/x"} {
		tells(t, k, 0, at(kernel.Readlink, path), reply{S: text})
		tells(t, k, 0, call{Kind: kernel.Readlink, Fd: 1, Path: "../" + path}, reply{S: text})
	}
	for path, e := range map[string]api.Errno{"a": api.ErrArg, "s": api.ErrArg, ".": api.ErrArg, "/": api.ErrArg, "l/": api.ErrArg, "n": api.ErrNone, "lx/": api.ErrNone, "lo/": api.ErrLoop, "lf/": api.ErrNotDir, "": api.ErrNone} {
		refuses(t, k, 0, at(kernel.Readlink, path), e)
	}
}

// P12.5
func TestStat(t *testing.T) {
	k := house(t)
	k, _ = done(t, k, 0, call{Kind: kernel.Link, Fd: -1, Path: "a/f", Path2: "h"})
	info := map[int]kernel.Info{
		0: {0, 2, 63, 0, 1, 0}, 1: {1, 2, 63, 0, 1, 0}, 2: {2, 2, 61, 3, 1, 0}, 3: {3, 1, 52, 3, 2, 5},
		4: {4, 3, 63, 0, 1, 1}, 5: {5, 3, 63, 0, 1, 3}, 6: {6, 3, 63, 0, 1, 3}, 8: {8, 1, 0, 3, 1, 6}, 10: {10, 2, 63, 0, 0, 0},
	}
	for _, s := range []struct {
		path               string
		followed, unlinked int // -1: ErrNone, -2: ErrLoop
	}{
		{"a", 1, 1}, {"a/", 1, 1}, {"/", 0, 0}, {".", 0, 0}, {"a/b", 2, 2}, {"h", 3, 3}, {"l", 1, 4}, {"l/", 1, 1}, {"l/f", 3, 3}, {"lf", 3, 5}, {"lx", -1, 6}, {"lo", -2, 7}, {"s", 8, 8}, {"n", -1, -1},
	} {
		for flags, i := range map[int]int{0: s.followed, 64: s.unlinked, 63: s.followed, 127: s.unlinked, -1: s.unlinked, 128: s.followed} {
			c := call{Kind: kernel.Stat, Fd: -1, Path: s.path, Flags: flags}
			switch i {
			case -1:
				refuses(t, k, 0, c, api.ErrNone)
			case -2:
				refuses(t, k, 0, c, api.ErrLoop)
			case 7:
				tells(t, k, 0, c, reply{I: kernel.Info{Ino: 7, Kind: 3, Mode: 63, Links: 1, Size: 2}})
			default:
				tells(t, k, 0, c, reply{I: info[i]})
			}
		}
	}
	tells(t, k, 2, at(kernel.Stat, "."), reply{I: info[10]})
	tells(t, k, 0, call{Kind: kernel.Stat, Fd: 1, Path: "f"}, reply{I: info[3]})
}

// P12.5: who goes is there, and is no longer where he was.
func TestChdir(t *testing.T) {
	k := house(t)
	moved := func(p, from, to int) func(k *kernel.Kernel) {
		return func(k *kernel.Kernel) {
			k.Procs[p].Cwd = to
			k.D.Nodes[from].Open--
			k.D.Nodes[to].Open++
		}
	}
	does(t, k, 0, at(kernel.Chdir, "a"), reply{}, moved(0, 0, 1))
	does(t, k, 0, at(kernel.Chdir, "l"), reply{}, moved(0, 0, 1))
	does(t, k, 0, at(kernel.Chdir, "a/b/"), reply{}, moved(0, 0, 2))
	does(t, k, 0, call{Kind: kernel.Chdir, Fd: 1, Path: "b"}, reply{}, moved(0, 0, 2))
	does(t, k, 0, call{Kind: kernel.Chdir, Fd: 1, Path: "."}, reply{}, moved(0, 0, 1))
	does(t, k, 1, at(kernel.Chdir, ".."), reply{}, moved(1, 2, 1))
	does(t, k, 1, at(kernel.Chdir, "/"), reply{}, moved(1, 2, 0))
	tells(t, k, 0, at(kernel.Chdir, "."), reply{})
	tells(t, k, 0, at(kernel.Chdir, "/"), reply{})
	tells(t, k, 2, at(kernel.Chdir, "."), reply{}) // it has no name, and stays
	does(t, k, 2, at(kernel.Chdir, ".."), reply{}, func(k *kernel.Kernel) {
		moved(2, 10, 0)(k)
		k.D.Nodes[10] = disk.Node{}
	})
	kept := opened(t, k, 0, desc{Ino: 10})
	does(t, kept, 2, at(kernel.Chdir, "/"), reply{}, moved(2, 10, 0)) // somebody has it open
	does(t, kept, 0, call{Kind: kernel.Chdir, Fd: 3, Path: "."}, reply{}, moved(0, 0, 10))
}

// P12.5
func TestChdirRefuses(t *testing.T) {
	k := house(t)
	for path, e := range map[string]api.Errno{"s": api.ErrNotDir, "lf": api.ErrNotDir, "a/f": api.ErrNotDir, "a/f/": api.ErrNotDir, "n": api.ErrNone, "lx": api.ErrNone, "": api.ErrNone, "lo": api.ErrLoop, "a/x/y": api.ErrNone} {
		refuses(t, k, 0, at(kernel.Chdir, path), e)
		refuses(t, k, 4, at(kernel.Chdir, path), e)
	}
	for mode := range 64 { // to go through it is asked, of its owner or of others
		k := booted(t, hold(t, dir("d", mode, 1)), proc{Live: true}, proc{Who: 1, Live: true}, proc{Who: 2, Live: true})
		for p, may := range []bool{true, mode&8 != 0, mode&1 != 0} {
			if !may {
				refuses(t, k, p, at(kernel.Chdir, "d"), api.ErrAccess)
				continue
			}
			does(t, k, p, at(kernel.Chdir, "d"), reply{}, func(k *kernel.Kernel) {
				k.Procs[p].Cwd = 1
				k.D.Nodes[0].Open--
				k.D.Nodes[1].Open++
			})
		}
	}
}

// P12.6: what is open stays, whatever becomes of its names.
func TestNothingIsLostThatIsOpen(t *testing.T) {
	k := house(t)
	for _, c := range []call{
		at(kernel.Unlink, "a/f"),
		{Kind: kernel.Rename, Fd: -1, Fd2: -1, Path: "s", Path2: "a/f"},
		{Kind: kernel.Open, Fd: -1, Path: "a/n", Flags: 6},
	} {
		l, _ := done(t, k, 0, c)
		does(t, l, 0, read(0, 9), reply{S: "ello"}, goesOn(0, 5))
	}
	k = opened(t, k, 0, desc{Ino: 2, Read: true})
	k, _ = done(t, k, 0, at(kernel.Rmdir, "a/b"))
	k, _ = done(t, k, 1, at(kernel.Chdir, "/"))
	tells(t, k, 0, bare(kernel.List, 3), reply{})
	refuses(t, k, 0, call{Kind: kernel.Mkdir, Fd: 3, Path: "n"}, api.ErrNone)
	k, _ = done(t, k, 0, bare(kernel.Close, 3))
	if n := k.D.Nodes[2]; fmt.Sprint(n) != fmt.Sprint(disk.Node{}) {
		t.Error(told(n))
	}
}
