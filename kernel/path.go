package kernel

import (
	"flagstone/api"
	"flagstone/change"
	"flagstone/disk"
	"flagstone/mode"
	"flagstone/walk"
)

func (w *work) mkdir() (Reply, error) {
	return w.edit(func(d disk.Disk, a change.As) (disk.Disk, api.Errno) {
		return change.Mkdir(d, a, w.c.Path, w.masked())
	})
}

func (w *work) rmdir() (Reply, error) {
	return w.edit(func(d disk.Disk, a change.As) (disk.Disk, api.Errno) {
		return change.Rmdir(d, a, w.c.Path)
	})
}

func (w *work) unlink() (Reply, error) {
	return w.edit(func(d disk.Disk, a change.As) (disk.Disk, api.Errno) {
		return change.Unlink(d, a, w.c.Path)
	})
}

func (w *work) chmod() (Reply, error) {
	return w.edit(func(d disk.Disk, a change.As) (disk.Disk, api.Errno) {
		return change.Chmod(d, a, w.c.Path, w.c.Mode)
	})
}

func (w *work) symlink() (Reply, error) {
	return w.edit(func(d disk.Disk, a change.As) (disk.Disk, api.Errno) {
		return change.Symlink(d, a, w.c.Data, w.c.Path)
	})
}

func (w *work) link() (Reply, error) {
	return w.edit(func(d disk.Disk, a change.As) (disk.Disk, api.Errno) {
		return change.Link(d, a, w.c.Path, w.c.Path2)
	})
}

func (w *work) rename() (Reply, error) {
	a, err := w.base(w.c.Fd)
	if err != nil {
		return Reply{}, err
	}
	b, err := w.base(w.c.Fd2)
	if err != nil {
		return Reply{}, err
	}
	d, e := change.Rename(w.k.D, a, b, w.c.Path, w.c.Path2)
	w.k.D = d
	return Reply{}, wrong(w.c.Path, e)
}

// edit has the disk be what the function makes of it, from the call's base.
func (w *work) edit(made func(d disk.Disk, a change.As) (disk.Disk, api.Errno)) (Reply, error) {
	a, err := w.base(w.c.Fd)
	if err != nil {
		return Reply{}, err
	}
	d, e := made(w.k.D, a)
	w.k.D = d
	return Reply{}, wrong(w.c.Path, e)
}

func (w *work) readlink() (Reply, error) {
	_, n, err := w.find(false)
	switch {
	case err != nil:
		return Reply{}, err
	case n.Kind != disk.Link:
		return Reply{}, wrong(w.c.Path, api.ErrArg)
	}
	return Reply{S: n.Data}, nil
}

func (w *work) stat() (Reply, error) {
	i, n, err := w.find(!w.asks(NoFollow))
	if err != nil {
		return Reply{}, err
	}
	return Reply{I: Info{i, n.Kind, n.Mode, n.Owner, n.Links, len(n.Data)}}, nil
}

func (w *work) chdir() (Reply, error) {
	i, n, err := w.find(true)
	switch {
	case err != nil:
		return Reply{}, err
	case n.Kind != disk.Dir:
		return Reply{}, wrong(w.c.Path, api.ErrNotDir)
	case !w.may(n, mode.Exec):
		return Reply{}, wrong(w.c.Path, api.ErrAccess)
	}
	w.enter(i)
	return Reply{}, nil
}

// find tells the node to which the call's path leads, and its number.
func (w *work) find(follow bool) (int, disk.Node, error) {
	a, err := w.base(w.c.Fd)
	if err != nil {
		return 0, disk.Node{}, err
	}
	i, e := walk.Node(w.k.D, a.Who, a.From, w.c.Path, follow)
	if e != api.OK {
		return 0, disk.Node{}, wrong(w.c.Path, e)
	}
	n, _ := disk.Get(w.k.D, i)
	return i, n, nil
}
