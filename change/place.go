package change

import (
	"flagstone/api"
	"flagstone/disk"
	"flagstone/mode"
	"flagstone/walk"
)

const (
	root = 0
	none = -1 // what a spot has, where nothing is there
)

// place is where a path leads for who: its spot, the spot's directory, and the
// node that is named there, which is free, where nothing is.
type place struct {
	who  int
	path string
	spot walk.Spot
	dir  disk.Node
	node disk.Node
}

// find tells the place to which path leads.
func find(d disk.Disk, a As, path string) (place, error) {
	spot, e := walk.Walk(d, a.Who, a.From, path, false)
	if e != api.OK {
		return place{}, unmet{path, below(e)}
	}
	p := place{who: a.Who, path: path, spot: spot}
	p.dir, _ = disk.Get(d, spot.Dir)
	p.node, _ = disk.Get(d, spot.Ino)
	return p, nil
}

// findThere tells the place to which path leads, where something has to be.
func findThere(d disk.Disk, a As, path string) (place, error) {
	p, err := find(d, a, path)
	if err == nil && !p.there() {
		err = p.fault(errNone)
	}
	return p, err
}

// fault tells that something does not hold of p.
func (p place) fault(cause error) error { return unmet{p.path, cause} }

func (p place) there() bool { return p.spot.Ino != none }

func (p place) isDir() bool { return p.node.Kind == disk.Dir }

// gone tells whether nobody names p's directory any more.
func (p place) gone() bool { return p.dir.Links < 1 }

// writable tells whether who may write in p's directory.
func (p place) writable() bool {
	return mode.May(p.dir.Mode, p.dir.Owner, p.who, mode.Write)
}

// isName tells whether p's last part is a name, that can come and go.
func (p place) isName() bool {
	switch p.spot.Name {
	case "", ".", "..":
		return false
	}
	return true
}

// toEnter tells what keeps a node of that kind from being entered at p. A
// directory alone may be told by a path that ends with `/`.
func (p place) toEnter(kind int) error {
	if p.there() {
		return p.fault(errExists)
	}
	switch kind {
	case disk.File:
		if p.spot.Slash {
			return p.fault(errIsDir)
		}
		fallthrough
	case disk.Link:
		if p.spot.Slash {
			return p.fault(errNotDir)
		}
		fallthrough
	case disk.Dir:
		if p.gone() {
			return p.fault(errNone)
		}
		if !p.writable() {
			return p.fault(errAccess)
		}
	}
	return nil
}

// toUnlink tells what keeps the name of a file or a link from being dropped.
func (p place) toUnlink() error {
	switch {
	case p.isDir():
		return p.fault(errIsDir)
	case !p.writable():
		return p.fault(errAccess)
	}
	return nil
}

// toRmdir tells what keeps the name of a directory from being dropped.
func (p place) toRmdir() error {
	switch {
	case !p.isDir():
		return p.fault(errNotDir)
	case p.spot.Name == "..":
		return p.fault(errFull)
	case !p.isName():
		return p.fault(errArg)
	case !p.writable():
		return p.fault(errAccess)
	case len(p.node.Names) > 0:
		return p.fault(errFull)
	}
	return nil
}

// toMove tells what keeps what is at p from coming to another place, whatever
// there is.
func (p place) toMove(to place) error {
	switch {
	case !p.isName():
		return p.fault(errArg)
	case !to.isName():
		return to.fault(errArg)
	case !p.writable():
		return p.fault(errAccess)
	case !to.writable():
		return to.fault(errAccess)
	}
	return nil
}

// toTake tells what keeps p from taking what is at another place, in the place
// of what p has.
func (p place) toTake(d disk.Disk, from place) error {
	switch {
	case p.gone():
		return p.fault(errNone)
	case from.isDir():
		return p.toTakeDir(d, from)
	case p.isDir():
		return p.fault(errIsDir)
	case p.spot.Slash:
		return p.fault(errNotDir)
	}
	return nil
}

// toTakeDir is toTake of a directory.
func (p place) toTakeDir(d disk.Disk, from place) error {
	switch {
	case within(d, p.spot.Dir, from.spot.Ino):
		return p.fault(errInto)
	case p.there() && !p.isDir():
		return p.fault(errNotDir)
	case len(p.node.Names) > 0:
		return p.fault(errFull)
	}
	return nil
}

// within tells whether node i is top, or stands beneath it.
func within(d disk.Disk, i, top int) bool {
	for range disk.Used(d) { // no way up is longer, so that this ends also where it goes round
		if i == top || i == root {
			break
		}
		n, _ := disk.Get(d, i)
		i = n.Up
	}
	return i == top
}
