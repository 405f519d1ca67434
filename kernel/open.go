package kernel

import (
	"flagstone/api"
	"flagstone/change"
	"flagstone/content"
	"flagstone/disk"
	"flagstone/entry"
	"flagstone/flock"
	"flagstone/handle"
	"flagstone/mode"
	"flagstone/walk"
)

func (w *work) open() (Reply, error) {
	if !w.asks(ToRead) && !w.asks(ToWrite) {
		return Reply{}, wrong(w.c.Path, api.ErrArg)
	}
	if handle.Count(w.k.T, w.p) == api.MaxFds {
		return Reply{}, wrong(w.c.Path, api.ErrMany)
	}
	i, err := w.target()
	if err != nil {
		return Reply{}, err
	}
	w.hold(i)
	x := handle.Desc{Ino: i, Read: w.asks(ToRead), Write: w.asks(ToWrite)}
	t, fd, e := handle.Open(w.k.T, w.p, x)
	w.k.T = t
	return Reply{N: fd}, wrong(w.c.Path, e)
}

// target tells the node that is to be opened, and makes it, if there is none.
func (w *work) target() (int, error) {
	a, err := w.base(w.c.Fd)
	if err != nil {
		return 0, err
	}
	follow := !w.asks(NoFollow) && !w.asks(Create|Excl)
	spot, e := walk.Walk(w.k.D, a.Who, a.From, w.c.Path, follow)
	switch {
	case e != api.OK:
		return 0, wrong(w.c.Path, e)
	case spot.Ino == none:
		return w.make(a)
	}
	e = w.admit(spot.Ino)
	if e == api.OK && w.asks(Trunc|ToWrite) {
		w.k.D, e = content.Cut(w.k.D, spot.Ino, 0)
	}
	return spot.Ino, wrong(w.c.Path, e)
}

// make tells the file that is made where nothing is there.
func (w *work) make(a change.As) (int, error) {
	switch {
	case !w.asks(Create):
		return 0, wrong(w.c.Path, api.ErrNone)
	case w.asks(OnlyDir):
		return 0, wrong(w.c.Path, api.ErrNotDir)
	}
	d, i, e := change.Make(w.k.D, a, w.c.Path, w.masked())
	w.k.D = d
	return i, wrong(w.c.Path, e)
}

// admit tells what keeps node i, that is there, from being opened.
func (w *work) admit(i int) api.Errno {
	n, _ := disk.Get(w.k.D, i)
	isDir := n.Kind == disk.Dir
	switch {
	case w.asks(Create | Excl):
		return api.ErrExists
	case n.Kind == disk.Link:
		return api.ErrLoop
	case isDir && w.asks(ToWrite):
		return api.ErrIsDir
	case !isDir && w.asks(OnlyDir):
		return api.ErrNotDir
	case w.asks(ToRead) && !w.may(n, mode.Read), w.asks(ToWrite) && !w.may(n, mode.Write):
		return api.ErrAccess
	}
	return api.OK
}

func (w *work) close() (Reply, error) {
	t, x, e := handle.Close(w.k.T, w.p, w.c.Fd)
	if e != api.OK {
		return Reply{}, wrongFd(w.c.Fd, e)
	}
	w.k.T = t
	if x.Refs == 0 {
		w.release(x.Ino)
	}
	return Reply{}, nil
}

func (w *work) dup() (Reply, error) {
	t, fd, e := handle.Dup(w.k.T, w.p, w.c.Fd)
	w.k.T = t
	return Reply{N: fd}, wrongFd(w.c.Fd, e)
}

func (w *work) read() (Reply, error) {
	i, x, err := w.desc(toRead)
	if err != nil {
		return Reply{}, err
	}
	s, e := content.Read(w.k.D, x.Ino, x.At, w.c.N)
	w.advance(i, x, len(s))
	return Reply{S: s}, wrongFd(w.c.Fd, e)
}

func (w *work) write() (Reply, error) {
	i, x, err := w.desc(toWrite)
	if err != nil {
		return Reply{}, err
	}
	d, e := content.Write(w.k.D, x.Ino, x.At, w.c.Data)
	w.k.D = d
	w.advance(i, x, len(w.c.Data))
	return Reply{N: len(w.c.Data)}, wrongFd(w.c.Fd, e)
}

func (w *work) list() (Reply, error) {
	_, x, err := w.desc(toRead)
	if err != nil {
		return Reply{}, err
	}
	n, _ := disk.Get(w.k.D, x.Ino)
	if n.Kind != disk.Dir {
		return Reply{}, wrongFd(w.c.Fd, api.ErrNotDir)
	}
	return Reply{L: entry.Names(n.Names)}, nil
}

func (w *work) flock() (Reply, error) {
	i, _, err := w.desc(toAny)
	if err != nil {
		return Reply{}, err
	}
	t, e := flock.Lock(w.k.T, i, w.c.N)
	w.k.T = t
	return Reply{}, wrongFd(w.c.Fd, e)
}

// What a description may have to be for.
func toRead(x handle.Desc) bool  { return x.Read }
func toWrite(x handle.Desc) bool { return x.Write }
func toAny(handle.Desc) bool     { return true }

// desc tells the place of the description that the call's descriptor refers
// to, and it, if it is for what is to be done.
func (w *work) desc(isFor func(x handle.Desc) bool) (int, handle.Desc, error) {
	i, x, is := handle.Get(w.k.T, w.p, w.c.Fd)
	if !is || !isFor(x) {
		return 0, handle.Desc{}, wrongFd(w.c.Fd, api.ErrBad)
	}
	return i, x, nil
}

// advance has x, the description i, be read or written n bytes further.
func (w *work) advance(i int, x handle.Desc, n int) {
	x.At += n
	w.k.T = handle.Set(w.k.T, i, x)
}
