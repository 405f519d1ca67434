package kernel

import (
	"slices"

	"flagstone/api"
	"flagstone/change"
	"flagstone/disk"
	"flagstone/handle"
	"flagstone/mode"
)

// here is the descriptor of the directory in which a process is.
const here = -1

// none is what a spot has, where nothing is there.
const none = -1

// work is one call of a process, and the kernel that it makes, which is dropped
// with all that the call changed on the way, if it goes wrong.
type work struct {
	k Kernel
	p int
	c Call
}

// do does the call, if there is one of its kind.
func (w *work) do() (Reply, error) {
	if !alive(w.k, w.p) {
		return Reply{}, fault(api.ErrArg)
	}
	call, is := w.calls()[w.c.Kind]
	if !is {
		return Reply{}, fault(api.ErrArg)
	}
	return call()
}

// calls tells what does the call, by its kind.
func (w *work) calls() map[int]func() (Reply, error) {
	return map[int]func() (Reply, error){
		Open:     w.open,
		Close:    w.close,
		Read:     w.read,
		Write:    w.write,
		Mkdir:    w.mkdir,
		Rmdir:    w.rmdir,
		Unlink:   w.unlink,
		Rename:   w.rename,
		Link:     w.link,
		Symlink:  w.symlink,
		Readlink: w.readlink,
		Stat:     w.stat,
		List:     w.list,
		Chdir:    w.chdir,
		Flock:    w.flock,
		Chmod:    w.chmod,
		Dup:      w.dup,
	}
}

// proc tells the process whose call it is.
func (w *work) proc() Proc { return w.k.Procs[w.p] }

// asks tells whether the call has all of these flags.
func (w *work) asks(flags int) bool { return w.c.Flags&flags == flags }

// masked tells the mode that what the call makes gets.
func (w *work) masked() int { return mode.Mask(w.c.Mode, w.proc().Umask) }

// may tells whether who calls may do all that is wanted with n.
func (w *work) may(n disk.Node, want int) bool {
	return mode.May(n.Mode, n.Owner, w.proc().Who, want)
}

// base tells who calls, and the directory from which he goes by paths that are
// handed in with the descriptor fd.
func (w *work) base(fd int) (change.As, error) {
	a := change.As{Who: w.proc().Who, From: w.proc().Cwd}
	if fd == here {
		return a, nil
	}
	_, x, is := handle.Get(w.k.T, w.p, fd)
	if !is {
		return change.As{}, wrongFd(fd, api.ErrBad)
	}
	if n, _ := disk.Get(w.k.D, x.Ino); n.Kind != disk.Dir {
		return change.As{}, wrongFd(fd, api.ErrNotDir)
	}
	a.From = x.Ino
	return a, nil
}

// hold has node i open once more.
func (w *work) hold(i int) {
	n, _ := disk.Get(w.k.D, i)
	n.Open++
	w.k.D = disk.Set(w.k.D, i, n)
}

// release has node i open once less, so that it goes, if that was all it had.
func (w *work) release(i int) {
	n, _ := disk.Get(w.k.D, i)
	n.Open--
	w.k.D = disk.Settle(disk.Set(w.k.D, i, n), i)
}

// enter has the process be in directory i.
func (w *work) enter(i int) {
	was := w.proc().Cwd
	w.k.Procs = slices.Clone(w.k.Procs)
	w.k.Procs[w.p].Cwd = i
	w.hold(i) // ahead of the release, as i may be where it was, and have no name any more
	w.release(was)
}
