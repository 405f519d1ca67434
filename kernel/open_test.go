package kernel_test

import (
	"math"
	"strings"
	"testing"

	"flagstone/api"
	"flagstone/disk"
	"flagstone/handle"
	"flagstone/kernel"
)

// opens tells what an Open does that is told descriptor fd: process p has node i open.
func opens(p, fd, i, flags int) func(k *kernel.Kernel) {
	return func(k *kernel.Kernel) {
		place := 0
		for place < len(k.T.Descs) && k.T.Descs[place].Refs > 0 {
			place++
		}
		if place == len(k.T.Descs) {
			k.T.Descs = append(k.T.Descs, desc{})
		}
		k.T.Descs[place] = desc{Ino: i, Read: flags&1 != 0, Write: flags&2 != 0, Refs: 1}
		k.T.Fds[p][fd] = place
		k.D.Nodes[i].Open++
	}
}

// makes tells what an Open does that makes a file as node 9, of mode 63 but Umask 2.
func makes(up int, n string, flags int) func(k *kernel.Kernel) {
	return func(k *kernel.Kernel) {
		k.D.Nodes[9] = disk.Node{Kind: disk.File, Mode: 61, Owner: 3, Links: 1}
		name(k, up, n, 9)
		opens(0, 3, 9, flags)(k)
	}
}

// P12.3: what is there.
func TestOpenWhatIsThere(t *testing.T) {
	k := house(t)
	for _, s := range []struct {
		path  string
		flags int
		ino   int
	}{
		{"a/f", 1, 3}, {"a/f", 2, 3}, {"a/f", 3, 3}, {"a/f", 1 | 4, 3}, {"a/f", 1 | 8, 3}, {"a/f", 1 | 16, 3}, {"a/f", 1 | 64, 3}, {"a/f", 3 | 4 | 64, 3},
		{"/a//f", 1, 3}, {"l/f", 1, 3}, {"l/f", 1 | 64, 3}, {"lf", 1, 3}, {"lf", 2 | 4, 3}, {"lf", 1 | 8, 3},
		{"a", 1, 1}, {"a/", 1 | 32, 1}, {"a", 1 | 4, 1}, {"a", 1 | 16, 1}, {"l", 1, 1}, {"l", 1 | 32, 1}, {"l/", 1 | 64, 1}, {"/", 1, 0}, {".", 1 | 32 | 64, 0}, {"..", 1 | 4 | 16, 0}, {"a/..", 1, 0},
		{"a/b", 1, 2}, {"a/f", 1 | 128, 3}, {"a/f", 1 | 256<<40, 3}, {"a/f", math.MinInt + 1, 3},
	} {
		does(t, k, 0, with(s.path, s.flags), reply{N: 3}, opens(0, 3, s.ino, s.flags))
	}
	does(t, k, 0, call{Kind: kernel.Open, Fd: 1, Path: "f", Flags: 2}, reply{N: 3}, opens(0, 3, 3, 2))
	does(t, k, 1, with(".", 1), reply{N: 2}, opens(1, 2, 2, 1))
	does(t, k, 1, with("/s", 3), reply{N: 2}, opens(1, 2, 8, 3))
	does(t, k, 2, with(".", 1), reply{}, opens(2, 0, 10, 1)) // it has no name any more
}

// P12.3: what is not there is made, if that is asked.
func TestOpenWhatIsNotThere(t *testing.T) {
	k := house(t)
	for _, flags := range []int{1 | 4, 2 | 4, 3 | 4, 1 | 4 | 8, 2 | 4 | 8 | 16, 2 | 4 | 16, 1 | 4 | 64, 1 | 4 | 8 | 64 | 16} {
		does(t, k, 0, with("n", flags), reply{N: 3}, makes(0, "n", flags))
		does(t, k, 0, with("/a/n", flags), reply{N: 3}, makes(1, "n", flags))
		does(t, k, 0, with("l/n", flags), reply{N: 3}, makes(1, "n", flags))
		does(t, k, 0, call{Kind: kernel.Open, Fd: 1, Path: "b/n", Flags: flags, Mode: 63}, reply{N: 3}, makes(2, "n", flags))
	}
	for _, flags := range []int{1, 2, 3, 1 | 8, 3 | 16, 1 | 32, 1 | 64, 1 | 8 | 16 | 32 | 64} {
		refuses(t, k, 0, with("n", flags), api.ErrNone)
		refuses(t, k, 0, with("n/", flags), api.ErrNone)
		refuses(t, k, 0, with("a/b/n", flags), api.ErrNone)
	}
	does(t, k, 0, call{Kind: kernel.Open, Fd: -1, Path: "n", Flags: 6, Mode: 2}, reply{N: 3}, func(k *kernel.Kernel) { // who makes a file has it open, whatever its mode
		makes(0, "n", 6)(k)
		k.D.Nodes[9].Mode = 0
	})
}

// P12.3: OnlyDir makes nothing, and change.Make tells why it doesn't.
func TestOpenMakesNothing(t *testing.T) {
	k := house(t)
	refuses(t, k, 0, with("n", 1|4|32), api.ErrNotDir)
	refuses(t, k, 0, with("n/", 1|4|32), api.ErrNotDir)
	refuses(t, k, 0, with("n", 1|4|8|32), api.ErrNotDir)
	refuses(t, k, 4, with("a/b/n", 1|4|32), api.ErrNotDir)
	refuses(t, k, 0, with("n/", 1|4), api.ErrIsDir)
	refuses(t, k, 0, with("n/", 1|4|8), api.ErrIsDir)
	refuses(t, k, 0, with("lx/", 1|4), api.ErrIsDir)
	refuses(t, k, 2, with("n", 1|4), api.ErrNone) // where it is has no links any more
	refuses(t, k, 4, with("a/b/n", 1|4), api.ErrAccess)
	full := edit(k, func(k *kernel.Kernel) {
		k.D.Most, k.D.Nodes[9] = 11, disk.Node{Kind: disk.Dir, Mode: 63, Up: 0, Links: 1}
		name(k, 0, "d", 9)
	})
	refuses(t, full, 0, with("n", 1|4), api.ErrSpace)
}

// P12.3: a link that leads nowhere, or to itself.
func TestOpenLinks(t *testing.T) {
	k := house(t)
	for _, flags := range []int{1, 2, 3, 1 | 8, 1 | 16, 1 | 32, 3 | 16} {
		refuses(t, k, 0, with("lx", flags), api.ErrNone)
		refuses(t, k, 0, with("lo", flags), api.ErrLoop)
		refuses(t, k, 0, with("l", flags|64), api.ErrLoop)
		refuses(t, k, 0, with("lf", flags|64), api.ErrLoop)
		refuses(t, k, 0, with("lx", flags|64), api.ErrLoop)
		refuses(t, k, 0, with("lo", flags|64), api.ErrLoop)
		refuses(t, k, 0, with("lf", flags|64|32), api.ErrLoop)
		refuses(t, k, 0, with("l", flags&^8|4|64), api.ErrLoop)
	}
	refuses(t, k, 0, with("lx", 1|4), api.ErrExists) // as Make does not follow it
	refuses(t, k, 0, with("lx", 1|4|32), api.ErrNotDir)
	refuses(t, k, 0, with("lo", 1|4), api.ErrLoop)
	for _, path := range []string{"l", "lf", "lx", "lo"} {
		refuses(t, k, 0, with(path, 1|4|8), api.ErrExists)
		refuses(t, k, 0, with(path, 1|4|8|64), api.ErrExists)
	}
	refuses(t, k, 0, with("lo/", 1|64), api.ErrLoop)
	refuses(t, k, 0, with("lf/", 1|64), api.ErrNotDir)
}

// P12.3: what keeps what is there from being opened, in its order.
func TestOpenRefusesWhatIsThere(t *testing.T) {
	k := house(t)
	for _, path := range []string{"a", "a/f", "s", ".", "/", "a/", "a/.."} {
		for _, flags := range []int{1 | 4 | 8, 2 | 4 | 8, 3 | 4 | 8 | 16 | 32 | 64} {
			refuses(t, k, 0, with(path, flags), api.ErrExists)
			refuses(t, k, 4, with(path, flags), api.ErrExists)
		}
	}
	for _, path := range []string{"a", "l", "/", "a/b/"} {
		refuses(t, k, 4, with(path, 2), api.ErrIsDir)
		refuses(t, k, 0, with(path, 3|16|32), api.ErrIsDir)
		refuses(t, k, 1, with("/"+path, 2|4), api.ErrIsDir)
	}
	for _, path := range []string{"a/f", "lf", "s"} {
		refuses(t, k, 0, with(path, 1|32), api.ErrNotDir)
		refuses(t, k, 4, with(path, 3|4|16|32), api.ErrNotDir)
	}
	for _, flags := range []int{1, 2, 3, 1 | 4, 2 | 16, 3 | 64} {
		refuses(t, k, 0, with("s", flags), api.ErrAccess) // its owner, too
	}
	refuses(t, k, 4, with("a/f", 2), api.ErrAccess)
	refuses(t, k, 4, with("a/f", 3), api.ErrAccess)
	refuses(t, k, 4, with("a/f", 2|16), api.ErrAccess)
}

// P12.3: each mode, each who, and each way to be opened.
func TestOpenAsksTheMode(t *testing.T) {
	for mode := range 64 {
		for who := range 3 { // all, the owner, another one
			for flags := 1; flags < 4; flags++ {
				bits := mode % 8
				if who == 1 {
					bits = mode / 8
				}
				may := who == 0 || (flags&1 == 0 || bits&4 != 0) && (flags&2 == 0 || bits&2 != 0)
				k := booted(t, hold(t, file("f", mode, 1, "x"), dir("d", mode, 1)), proc{Who: who, Live: true})
				if may {
					does(t, k, 0, with("f", flags), reply{}, opens(0, 0, 1, flags))
				} else {
					refuses(t, k, 0, with("f", flags), api.ErrAccess)
				}
				switch {
				case flags > 1:
					refuses(t, k, 0, with("d", flags), api.ErrIsDir)
				case may:
					does(t, k, 0, with("d", flags), reply{}, opens(0, 0, 2, flags))
				default:
					refuses(t, k, 0, with("d", flags), api.ErrAccess)
				}
			}
		}
	}
}

// P12.3: Trunc empties what is to be written, and nothing else.
func TestOpenTruncates(t *testing.T) {
	k := house(t)
	for _, flags := range []int{2 | 16, 3 | 16, 3 | 4 | 16, 2 | 16 | 64} {
		does(t, k, 0, with("a/f", flags), reply{N: 3}, func(k *kernel.Kernel) {
			k.D.Nodes[3].Data = ""
			opens(0, 3, 3, flags)(k)
		})
	}
	does(t, k, 0, with("a/f", 1|16), reply{N: 3}, opens(0, 3, 3, 1|16))
	does(t, k, 0, with("a/f", 2), reply{N: 3}, opens(0, 3, 3, 2))
	l, _ := done(t, k, 0, with("a/f", 2|16))
	tells(t, l, 0, call{Kind: kernel.Read, N: 9}, reply{}) // who had it open, finds it empty
	refuses(t, edit(k, func(k *kernel.Kernel) { k.D.Nodes[3].Mode = 32 }), 0, with("a/f", 2|16), api.ErrAccess)
}

// P12.3: who opens nothing is told so first, then who has no descriptor left,
// then what is wrong with the base, and with the way.
func TestOpenErrorsInOrder(t *testing.T) {
	k := house(t)
	many := k
	for range 5 {
		many, _ = done(t, many, 0, call{Kind: kernel.Dup, Fd: 1})
	}
	none := []int{0, 4, 8, 16, 32, 64, 4 | 8 | 16 | 32 | 64, -4, 128, math.MinInt}
	for _, fd := range []int{-1, 0, 1, 7, 8} {
		for _, path := range []string{"", "a/f", "n", "a", "x/y"} {
			c := call{Kind: kernel.Open, Fd: fd, Path: path}
			for _, c.Flags = range none {
				refuses(t, k, 0, c, api.ErrArg)
				refuses(t, many, 0, c, api.ErrArg)
			}
			for _, c.Flags = range []int{1, 2, 1 | 4, 2 | 4 | 8} {
				refuses(t, many, 0, c, api.ErrMany)
			}
		}
	}
	for _, s := range []struct {
		path string
		e    api.Errno
	}{
		{"", api.ErrNone}, {"x/y", api.ErrNone}, {"s/y", api.ErrNotDir}, {"s/", api.ErrNotDir}, {"a\x00", api.ErrArg}, {strings.Repeat("n", 13), api.ErrLong}, {strings.Repeat("/", 101), api.ErrLong}, {"lo/y", api.ErrLoop},
	} {
		for _, flags := range []int{1, 2, 1 | 4, 1 | 4 | 8, 2 | 4 | 32, 3 | 64} {
			refuses(t, k, 0, with(s.path, flags), s.e)
		}
	}
	shut := edit(k, func(k *kernel.Kernel) { k.D.Nodes[1].Mode = 7 * 8 })
	refuses(t, shut, 4, with("a/f", 1), api.ErrAccess)
	refuses(t, shut, 4, with("a/n", 1|4|8), api.ErrAccess)
}

// P12.3: each Open has the first descriptor that is vacant, till there is none.
func TestOpenAllDescriptors(t *testing.T) {
	k := booted(t, hold(t, file("f", 63, 1, "x")), proc{Live: true}, proc{Live: true})
	for fd := range 8 {
		k = does(t, k, 0, with("f", 1), reply{N: fd}, opens(0, fd, 1, 1))
	}
	refuses(t, k, 0, with("f", 1), api.ErrMany)
	refuses(t, k, 0, with("n", 1|4), api.ErrMany)
	k = does(t, k, 1, with("f", 2), reply{}, opens(1, 0, 1, 2))
	for _, fd := range []int{5, 2, 7} {
		l, _ := done(t, k, 0, call{Kind: kernel.Close, Fd: fd})
		does(t, l, 0, with("f", 3), reply{N: fd}, opens(0, fd, 1, 3))
	}
	if n := handle.Count(k.T, 0); n != 8 || k.D.Nodes[1].Open != 9 {
		t.Error(n, told(k))
	}
}

// P12.3: a new description has no lock, though another one of the node has.
func TestOpenHasNoLock(t *testing.T) {
	k, _ := done(t, house(t), 0, call{Kind: kernel.Flock, N: 2})
	k = does(t, k, 0, with("a/f", 1), reply{N: 3}, opens(0, 3, 3, 1))
	refuses(t, k, 0, call{Kind: kernel.Flock, Fd: 3, N: 1}, api.ErrAgain)
}
