package kernel_test

import (
	"fmt"
	"math"
	"math/rand"
	"strings"
	"testing"

	"flagstone/api"
	"flagstone/change"
	"flagstone/content"
	"flagstone/disk"
	"flagstone/flock"
	"flagstone/handle"
	"flagstone/kernel"
	"flagstone/mode"
	"flagstone/walk"
)

// opening is what is open by the second way: who refers to it holds a pointer.
type opening struct{ desc }

// person is a process by the second way.
type person struct {
	proc
	fds map[int]*opening
}

// world is a kernel by the second way: how often a node is open, or a
// description referred to, is not kept, but looked for.
type world struct {
	d      disk.Disk
	places []*opening
	people []*person
	procs  int // so many of the people are there
}

// worldOf tells k by the second way.
func worldOf(k kernel.Kernel) *world {
	w := &world{d: own(k).D, procs: len(k.Procs)}
	for _, x := range k.T.Descs {
		if x.Refs == 0 {
			w.places = append(w.places, nil)
			continue
		}
		w.places = append(w.places, &opening{x})
	}
	for p, l := range k.T.Fds {
		who := &person{fds: map[int]*opening{}}
		if p < len(k.Procs) {
			who.proc = k.Procs[p]
		}
		for fd, i := range l {
			if i >= 0 {
				who.fds[fd] = w.places[i]
			}
		}
		w.people = append(w.people, who)
	}
	return w
}

// kernel tells w as the program has it, with all counted anew, and without the
// nodes that nobody has.
func (w *world) kernel() kernel.Kernel {
	k := kernel.Kernel{D: w.d, T: handle.New(8)}
	at := map[*opening]int{}
	opens := make([]int, len(w.d.Nodes))
	for i, x := range w.places {
		k.T.Descs = append(k.T.Descs, desc{})
		if x != nil {
			at[x] = i
		}
	}
	for p, who := range w.people {
		if p < w.procs {
			k.Procs = append(k.Procs, who.proc)
		}
		if who.Live {
			opens[who.Cwd]++
		}
		for fd, x := range who.fds {
			i := at[x]
			k.T.Fds[p][fd] = i
			x.Refs = k.T.Descs[i].Refs + 1
			k.T.Descs[i] = x.desc
		}
	}
	for i, x := range w.places {
		if k.T.Descs[i].Refs > 0 {
			opens[x.Ino]++
		}
	}
	k = own(k)
	for i, n := range k.D.Nodes {
		if k.D.Nodes[i].Open = opens[i]; i > 0 && n.Links == 0 && opens[i] == 0 {
			k.D.Nodes[i] = disk.Node{}
		}
	}
	return k
}

// why is an error, and whether there is a reason for it.
type why struct {
	is bool
	e  api.Errno
}

// first tells the first error for which there is a reason.
func first(l ...why) api.Errno {
	for _, w := range l {
		if w.is && w.e != api.OK {
			return w.e
		}
	}
	return api.OK
}

func (w *world) node(i int) disk.Node {
	if i < 0 || i >= len(w.d.Nodes) {
		return disk.Node{}
	}
	return w.d.Nodes[i]
}

// base tells from where p goes beside the descriptor fd.
func (w *world) base(p, fd int) (change.As, api.Errno) {
	who := w.people[p]
	x, is := who.fds[fd]
	switch {
	case fd == -1:
		return change.As{Who: who.Who, From: who.Cwd}, api.OK
	case !is:
		return change.As{}, api.ErrBad
	case w.node(x.Ino).Kind != disk.Dir:
		return change.As{}, api.ErrNotDir
	}
	return change.As{Who: who.Who, From: x.Ino}, api.OK
}

// take has p refer to x by the first descriptor that it has not.
func (w *world) take(p int, x *opening) int {
	fd := 0
	for w.people[p].fds[fd] != nil {
		fd++
	}
	w.people[p].fds[fd] = x
	return fd
}

// do does a call of p, that is live, and of a kind that there is.
func (w *world) do(p int, c call) reply {
	switch c.Kind {
	case 1:
		return w.open(p, c)
	case 2, 3, 4, 13, 15, 17:
		return w.onFd(p, c)
	case 5, 6, 7, 8, 9, 10, 16:
		return w.change(p, c)
	}
	return w.look(p, c)
}

// open takes all that there is to be known first, and holds it against the
// chapter's errors as one list.
func (w *world) open(p int, c call) reply {
	has := func(flags int) bool { return c.Flags&flags == flags }
	who := w.people[p]
	a, be := w.base(p, c.Fd)
	spot, we := walk.Walk(w.d, a.Who, a.From, c.Path, !has(64) && !has(12))
	made, at, me := change.Make(w.d, a, c.Path, c.Mode&^who.Umask)
	there, n := spot.Ino != -1, w.node(spot.Ino)
	e := first(
		why{!has(1) && !has(2), api.ErrArg}, why{len(who.fds) == 8, api.ErrMany}, why{true, be}, why{true, we},
		why{!there && !has(4), api.ErrNone}, why{!there && has(32), api.ErrNotDir}, why{!there, me},
		why{there && has(12), api.ErrExists}, why{n.Kind == disk.Link, api.ErrLoop}, why{n.Kind == disk.Dir && has(2), api.ErrIsDir}, why{there && n.Kind != disk.Dir && has(32), api.ErrNotDir},
		why{there && has(1) && !mode.May(n.Mode, n.Owner, who.Who, 4), api.ErrAccess}, why{there && has(2) && !mode.May(n.Mode, n.Owner, who.Who, 2), api.ErrAccess},
	)
	switch {
	case e != api.OK:
		return reply{E: e}
	case !there:
		w.d, spot.Ino = made, at
	case has(18):
		w.d.Nodes[spot.Ino].Data = ""
	}
	x := &opening{desc{Ino: spot.Ino, Read: has(1), Write: has(2)}}
	for i := range w.places {
		if w.places[i] == nil {
			w.places[i] = x
			return reply{N: w.take(p, x)}
		}
	}
	w.places = append(w.places, x)
	return reply{N: w.take(p, x)}
}

// onFd does what is of a descriptor alone.
func (w *world) onFd(p int, c call) reply {
	who := w.people[p]
	x := who.fds[c.Fd]
	reads, writes := c.Kind == 3 || c.Kind == 13, c.Kind == 4
	if x == nil || reads && !x.Read || writes && !x.Write {
		return reply{E: api.ErrBad}
	}
	switch c.Kind {
	case 2:
		delete(who.fds, c.Fd)
		w.drop(x)
	case 3:
		s, e := content.Read(w.d, x.Ino, x.At, c.N)
		x.At += len(s)
		return reply{S: s, E: e}
	case 4:
		d, e := content.Write(w.d, x.Ino, x.At, c.Data)
		if e != api.OK {
			return reply{E: e}
		}
		w.d = d
		x.At += len(c.Data)
		return reply{N: len(c.Data)}
	case 13:
		if w.node(x.Ino).Kind != disk.Dir {
			return reply{E: api.ErrNotDir}
		}
		r := reply{}
		for _, e := range w.node(x.Ino).Names {
			r.L = append(r.L, e.Name)
		}
		return r
	case 15:
		return w.lock(x, c.N)
	case 17:
		if len(who.fds) == 8 {
			return reply{E: api.ErrMany}
		}
		return reply{N: w.take(p, x)}
	}
	return reply{}
}

// drop has the place of x be vacant, if nobody refers to it any more.
func (w *world) drop(x *opening) {
	for _, who := range w.people {
		for _, y := range who.fds {
			if x == y {
				return
			}
		}
	}
	for i := range w.places {
		if w.places[i] == x {
			w.places[i] = nil
		}
	}
}

func (w *world) lock(x *opening, kind int) reply {
	if kind < 0 || kind > 2 {
		return reply{E: api.ErrArg}
	}
	for _, y := range w.places {
		if y != nil && y != x && y.Ino == x.Ino && (kind == 1 && y.Lock == 2 || kind == 2 && y.Lock != 0) {
			return reply{E: api.ErrAgain}
		}
	}
	x.Lock = kind
	return reply{}
}

// change does what changes names.
func (w *world) change(p int, c call) reply {
	a, e := w.base(p, c.Fd)
	b, f := w.base(p, c.Fd2)
	if c.Kind == 8 && e == api.OK {
		e = f
	}
	if e != api.OK {
		return reply{E: e}
	}
	masked := c.Mode & (63 - w.people[p].Umask)
	switch c.Kind {
	case 5:
		w.d, e = change.Mkdir(w.d, a, c.Path, masked)
	case 6:
		w.d, e = change.Rmdir(w.d, a, c.Path)
	case 7:
		w.d, e = change.Unlink(w.d, a, c.Path)
	case 8:
		w.d, e = change.Rename(w.d, a, b, c.Path, c.Path2)
	case 9:
		w.d, e = change.Link(w.d, a, c.Path, c.Path2)
	case 10:
		w.d, e = change.Symlink(w.d, a, c.Data, c.Path)
	case 16:
		w.d, e = change.Chmod(w.d, a, c.Path, c.Mode)
	}
	return reply{E: e}
}

// look does what looks for a node: Readlink, Stat and Chdir.
func (w *world) look(p int, c call) reply {
	a, e := w.base(p, c.Fd)
	if e != api.OK {
		return reply{E: e}
	}
	i, e := walk.Node(w.d, a.Who, a.From, c.Path, c.Kind == 14 || c.Kind == 12 && c.Flags/64%2 == 0)
	n := w.node(i)
	e = first(why{true, e}, why{c.Kind == 11 && n.Kind != disk.Link, api.ErrArg}, why{c.Kind == 14 && n.Kind != disk.Dir, api.ErrNotDir}, why{c.Kind == 14 && !mode.May(n.Mode, n.Owner, a.Who, 1), api.ErrAccess})
	switch {
	case e != api.OK:
		return reply{E: e}
	case c.Kind == 11:
		return reply{S: n.Data}
	case c.Kind == 12:
		return reply{I: kernel.Info{Ino: i, Kind: n.Kind, Mode: n.Mode, Owner: n.Owner, Links: n.Links, Size: len(n.Data)}}
	}
	w.people[p].Cwd = i
	return reply{}
}

// agrees holds a call against the second way's, and tells the kernel, and the
// error. The kernel is right, and stays so, and nothing is lost that is open (P12.6).
func agrees(t *testing.T, k kernel.Kernel, p int, c call) (kernel.Kernel, api.Errno) {
	t.Helper()
	want, r := k, reply{E: api.ErrArg}
	if p >= 0 && p < len(k.Procs) && k.Procs[p].Live && c.Kind > 0 && c.Kind < 18 {
		w := worldOf(k)
		r = w.do(p, c)
		if r.E == api.OK {
			want = w.kernel()
		}
	}
	got, s := kernel.Do(k, p, c)
	if told(s) != told(r) {
		t.Fatalf("%d: %+v: %+v; want %+v; of\n%+v", p, c, s, r, k)
	}
	if told(got) != told(want) {
		t.Fatalf("%d: %+v: of\n%+v\nto\n%+v\nwant\n%+v", p, c, k, got, want)
	}
	if !kernel.Right(got) {
		t.Fatalf("%d: %+v: of\n%+v\nto\n%+v,\nthat is not right", p, c, k, got)
	}
	if flock.Fair(k.T) && !flock.Fair(got.T) {
		t.Fatalf("%d: %+v: not fair: %+v", p, c, got.T)
	}
	for _, x := range got.T.Descs {
		was := disk.Node{}
		if x.Ino < len(k.D.Nodes) {
			was = k.D.Nodes[x.Ino]
		}
		if n := got.D.Nodes[x.Ino]; x.Refs > 0 && (n.Kind == disk.Free || was.Open > 0 && (n.Kind != was.Kind || n.Owner != was.Owner)) {
			t.Fatalf("%d: %+v: what was open is lost: of\n%+v\nto\n%+v", p, c, k, got)
		}
	}
	return got, s.E
}

// P12.3: each flags, each path, by each who, also by who has no descriptor left.
func TestOpenOfAllFlags(t *testing.T) {
	k := house(t)
	k = opened(t, k, 4, desc{Ino: 1})
	many := k
	for range 5 {
		many, _ = done(t, many, 0, call{Kind: kernel.Dup, Fd: 1})
	}
	paths := []string{"", "/", ".", "..", "a", "a/", "a/b", "a/f", "a/f/", "l", "l/", "l/f", "lf", "lf/", "lx", "lx/", "lo", "lo/", "s", "n", "n/", "a/n", "a/b/n", "x/y", "s/y", "/a/f", "/a/b/n", "f", "a\x00", "/l", "/lx"}
	for flags := -1; flags < 130; flags++ {
		for _, path := range paths {
			c := call{Kind: kernel.Open, Fd: -1, Path: path, Flags: flags, Mode: 54}
			for p := range 5 {
				agrees(t, k, p, c)
			}
			agrees(t, many, 0, c)
			for _, c.Fd = range []int{0, 1, 7} {
				agrees(t, k, 0, c)
				agrees(t, k, 4, c)
			}
		}
	}
}

// P12.2 to P12.5: each kind, with short paths, by each who, from each base.
func TestEachKindOfShortPaths(t *testing.T) {
	k := house(t)
	paths := []string{"", "/", ".", "..", "a", "a/", "a/b", "a/f", "l", "l/f", "lf", "lx", "lo", "s", "s/", "n", "n/", "a/b/n", "/a", "/n", "b", "f"}
	for kind := -1; kind < 19; kind++ {
		for _, path := range paths {
			for _, path2 := range paths {
				if kind != kernel.Rename && kind != kernel.Link {
					path2 = ""
				}
				for p := -1; p < 6; p++ {
					for fd := -2; fd < 4; fd++ {
						agrees(t, k, p, call{Kind: kind, Fd: fd, Fd2: -1, N: fd, Mode: 63, Flags: 64 * (fd & 1), Path: path, Path2: path2, Data: path})
					}
					agrees(t, k, p, call{Kind: kind, Fd: -1, Fd2: 1, N: 3, Mode: 7, Path: path, Path2: path2, Data: "x"})
				}
				if path2 == "" {
					break
				}
			}
		}
	}
}

// somewhere tells a path by draws, and now and then what is none.
func somewhere(draw func(n int) int) string {
	text := strings.Repeat("/", draw(4)/3)
	for range 1 + draw(6)/3 {
		text += []string{"a", "b", "c", "a", "b", "c", "a", "b", "c", ".", ".."}[draw(11)] + "/"
	}
	if draw(6) > 0 {
		text = strings.TrimRight(text, "/")
	}
	if draw(80) == 0 {
		return []string{"", "/", "abcdefghijklm", "\x00", strings.Repeat("/", 101)}[draw(5)]
	}
	return text
}

// some tells a call by draws.
func some(draw func(n int) int) call {
	kinds := []int{1, 1, 1, 1, 1, 1, 1, 2, 3, 4, 4, 5, 5, 6, 7, 7, 8, 8, 9, 10, 11, 12, 13, 14, 14, 15, 15, 15, 16, 17, 17, 18}
	c := call{
		Kind: kinds[draw(len(kinds))], Fd: -1, Fd2: -1, N: []int{0, 1, 2, 2, 3, 3, 9, -1, math.MaxInt}[draw(9)], Mode: []int{63, 63, 63, 61, 56, 52, 8, 127, -1}[draw(9)],
		Path: somewhere(draw), Path2: somewhere(draw), Data: somewhere(draw),
	}
	for i, often := range []int{6, 6, 4, 2, 2, 1, 2} { // of each flag
		if draw(9) < often {
			c.Flags |= 1 << i
		}
	}
	switch c.Kind {
	case 2, 3, 4, 13, 15, 17:
		c.Fd = draw(9)*draw(2)*draw(2) - draw(6)/5
	default:
		if draw(5) == 0 {
			c.Fd = draw(4)
		}
		if draw(5) == 0 {
			c.Fd2 = draw(4)
		}
	}
	return c
}

// people tells a kernel of some processes, by draws, that are all in the root.
func people(t *testing.T, draw func(n int) int) kernel.Kernel {
	k := kernel.Kernel{D: disk.New(3+draw(12), draw(40), 63), T: handle.New(8)}
	for range 1 + draw(8)*draw(2) {
		x := proc{Who: draw(3), Umask: []int{0, 0, 2, 7, 18, 63}[draw(6)], Live: draw(9) > 0}
		if x.Live {
			k.D.Nodes[0].Open++
		}
		k.Procs = append(k.Procs, x)
	}
	return right(t, k)
}

// P12.1 to P12.6: many calls, one behind the other, of many processes.
func TestLongRowsAgainstASecondWay(t *testing.T) {
	seen := map[string]int{}
	for seed := range 800 {
		r := rand.New(rand.NewSource(int64(seed)))
		k := people(t, r.Intn)
		for range 150 {
			p, c := r.Intn(len(k.Procs))+r.Intn(20)/19, some(r.Intn)
			var e api.Errno
			k, e = agrees(t, k, p, c)
			seen[fmt.Sprint(c.Kind, " ", e)]++
			if i := r.Intn(40); i < len(k.T.Descs) { // somebody got far off
				x := k.T.Descs[i]
				x.At = []int{-1, 0, 2, 1000, 1001, math.MaxInt}[r.Intn(6)]
				k.T = handle.Set(k.T, i, x)
			}
		}
	}
	for kind, errors := range map[int][]int{
		1: {0, 1, 2, 3, 4, 5, 7, 8, 9, 10, 12, 13}, 2: {0, 12}, 3: {0, 1, 5, 12}, 4: {0, 1, 10, 12}, 5: {0, 2, 3, 4, 7, 8, 10, 12}, 6: {0, 1, 2, 4, 6, 7, 12}, 7: {0, 2, 4, 5, 7, 12},
		8: {0, 1, 2, 4, 5, 6, 7, 12, 15}, 9: {0, 2, 3, 4, 5, 7, 12}, 10: {0, 2, 3, 4, 7, 10, 12}, 11: {0, 1, 2, 4, 7, 8, 12}, 12: {0, 2, 4, 7, 8, 12}, 13: {0, 4, 12}, 14: {0, 2, 4, 7, 8, 12},
		15: {0, 1, 12, 14}, 16: {0, 2, 4, 7, 8, 12}, 17: {0, 12, 13}, 18: {1},
	} {
		for _, e := range errors {
			if seen[fmt.Sprint(kind, " ", e)] < 5 {
				t.Errorf("too few of %d with %d: %v", kind, e, seen)
			}
		}
	}
}
