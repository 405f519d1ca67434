package change_test

import (
	"fmt"
	"slices"
	"strings"
	"testing"

	"flagstone/api"
	"flagstone/change"
	"flagstone/disk"
	"flagstone/entry"
	"flagstone/mode"
	"flagstone/walk"
)

// why is an error, and whether there is a reason for it.
type why struct {
	is bool
	e  api.Errno
}

// first tells the first error for which there is a reason.
func first(l ...why) api.Errno {
	for _, w := range l {
		if w.is {
			return w.e
		}
	}
	return api.OK
}

// second does deeds by another way than the program: it takes all that there is
// to be known of both paths first, holds it against the chapter's errors as one
// list, and then counts what the names say anew: links, ways up, and who goes.
type second struct {
	d       disk.Disk
	x       deed
	a, b    walk.Spot
	ea, eb  api.Errno
	touched map[int]bool // what a deed may change
}

func (s *second) node(i int) disk.Node {
	if i < 0 || i >= len(s.d.Nodes) {
		return disk.Node{}
	}
	return s.d.Nodes[i]
}

func (s *second) write(spot walk.Spot, who int) bool {
	n := s.node(spot.Dir)
	return mode.May(n.Mode, n.Owner, who, 2)
}

// special tells whether the spot's last part is no name.
func special(s walk.Spot) bool {
	return s.Name == "" || strings.Trim(s.Name, ".") == "" && len(s.Name) < 3
}

// under tells all nodes that stand beneath i, and i.
func (s *second) under(i int) []int {
	all := []int{i}
	for _, e := range s.node(i).Names {
		all = append(all, s.under(e.Ino)...)
	}
	return all
}

// enters is what is told of what is entered at the second spot.
func (s *second) enters() []why {
	return []why{
		{s.eb != api.OK, s.eb},
		{s.x.what == "make" && s.b.Slash && s.b.Ino == -1, api.ErrIsDir},
		{s.x.what == "symlink" && s.b.Slash && s.b.Ino == -1, api.ErrNotDir},
		{s.b.Ino != -1, api.ErrExists},
		{s.node(s.b.Dir).Links == 0, api.ErrNone},
		{!s.write(s.b, s.x.a.Who), api.ErrAccess},
	}
}

// error tells the error of the deed.
func (s *second) error() api.Errno {
	x, one, two := s.x, s.node(s.a.Ino), s.node(s.b.Ino)
	used := len(slices.DeleteFunc(slices.Clone(s.d.Nodes), func(n disk.Node) bool { return n.Kind == disk.Free }))
	switch x.what {
	case "make", "mkdir":
		return first(append(s.enters(), why{used >= s.d.Most, api.ErrSpace})...)
	case "symlink":
		long := why{len(x.old) > 100, api.ErrLong}
		l := slices.Concat([]why{{x.old == "", api.ErrNone}, long}, s.enters())
		return first(append(l, why{used >= s.d.Most || disk.Bytes(s.d)+len(x.old) > s.d.Room, api.ErrSpace})...)
	case "link":
		l := []why{{s.ea != api.OK, s.ea}, {s.a.Ino == -1, api.ErrNone}, {one.Kind == disk.Dir, api.ErrIsDir}, {one.Links >= 20, api.ErrLinks}}
		return first(append(append(l, s.enters()...), why{s.b.Slash, api.ErrNotDir})...)
	case "unlink":
		return first(why{s.eb != api.OK, s.eb}, why{s.b.Ino == -1, api.ErrNone}, why{two.Kind == disk.Dir, api.ErrIsDir}, why{!s.write(s.b, x.a.Who), api.ErrAccess})
	case "rmdir":
		return first(why{s.eb != api.OK, s.eb}, why{s.b.Ino == -1, api.ErrNone}, why{two.Kind != disk.Dir, api.ErrNotDir},
			why{s.b.Name == "" || s.b.Name == ".", api.ErrArg}, why{s.b.Name == "..", api.ErrFull}, why{!s.write(s.b, x.a.Who), api.ErrAccess}, why{len(two.Names) > 0, api.ErrFull})
	case "rename":
		isDir, same := one.Kind == disk.Dir, s.a.Ino == s.b.Ino
		return first(why{s.ea != api.OK, s.ea}, why{s.a.Ino == -1, api.ErrNone}, why{s.eb != api.OK, s.eb}, why{special(s.a) || special(s.b), api.ErrArg},
			why{!s.write(s.a, x.a.Who) || !s.write(s.b, x.b.Who), api.ErrAccess}, why{same, api.OK}, why{s.node(s.b.Dir).Links == 0, api.ErrNone},
			why{isDir && slices.Contains(s.under(s.a.Ino), s.b.Dir), api.ErrInto}, why{isDir && s.b.Ino != -1 && two.Kind != disk.Dir, api.ErrNotDir}, why{isDir && len(two.Names) > 0, api.ErrFull},
			why{!isDir && two.Kind == disk.Dir, api.ErrIsDir}, why{!isDir && s.b.Slash, api.ErrNotDir})
	}
	return first(why{s.eb != api.OK, s.eb}, why{s.b.Ino == -1, api.ErrNone}, why{x.a.Who != 0 && x.a.Who != two.Owner, api.ErrAccess})
}

// do tells what the deed makes of the disk.
func (s *second) do() (disk.Disk, int, api.Errno) {
	x := s.x
	s.b, s.eb = walk.Walk(s.d, x.b.Who, x.b.From, x.path, x.what == "chmod")
	if x.what == "link" || x.what == "rename" {
		s.a, s.ea = walk.Walk(s.d, x.a.Who, x.a.From, x.old, false)
	}
	if e := s.error(); e != api.OK || x.what == "rename" && s.a.Ino == s.b.Ino {
		return s.d, 0, e
	}
	i := 0
	d := edit(s.d, func([]disk.Node) {})
	s.touched = map[int]bool{s.b.Dir: true, s.b.Ino: true}
	names := func(dir int, name string, ino int) { // 0 for none, as no name names the root
		l := map[string]int{}
		for _, e := range d.Nodes[dir].Names {
			l[e.Name] = e.Ino
		}
		l[name] = ino
		d.Nodes[dir].Names = nil
		for n, i := range l {
			if i != 0 {
				d.Nodes[dir].Names = append(d.Nodes[dir].Names, entry.Entry{Name: n, Ino: i})
			}
		}
		slices.SortFunc(d.Nodes[dir].Names, func(a, b entry.Entry) int { return strings.Compare(a.Name, b.Name) })
	}
	switch x.what {
	case "make", "mkdir", "symlink":
		for i < len(d.Nodes) && d.Nodes[i].Kind != disk.Free {
			i++
		}
		if i == len(d.Nodes) {
			d.Nodes = append(d.Nodes, disk.Node{})
		}
		d.Nodes[i] = map[string]disk.Node{
			"make":    {Kind: disk.File, Mode: x.mode & 63, Owner: x.a.Who},
			"mkdir":   {Kind: disk.Dir, Mode: x.mode & 63, Owner: x.a.Who},
			"symlink": {Kind: disk.Link, Mode: 63, Owner: x.a.Who, Data: x.old},
		}[x.what]
		s.touched[i] = true
		names(s.b.Dir, s.b.Name, i)
	case "link":
		s.touched[s.a.Ino] = true
		names(s.b.Dir, s.b.Name, s.a.Ino)
	case "unlink", "rmdir":
		names(s.b.Dir, s.b.Name, 0)
	case "rename":
		s.touched[s.a.Dir], s.touched[s.a.Ino] = true, true
		names(s.a.Dir, s.a.Name, 0)
		names(s.b.Dir, s.b.Name, s.a.Ino)
	case "chmod":
		d.Nodes[s.b.Ino].Mode = x.mode & 63
	}
	count(d)
	if x.what != "make" {
		i = 0
	}
	return d, i, api.OK
}

// count has all nodes of d have the links and the way up that the names say,
// and frees those that nobody has.
func count(d disk.Disk) {
	for i := range d.Nodes {
		d.Nodes[i].Links, d.Nodes[i].Up = 0, 0
	}
	d.Nodes[0].Links = 1
	for at, n := range d.Nodes {
		for _, e := range n.Names {
			d.Nodes[e.Ino].Links++
			if d.Nodes[e.Ino].Kind == disk.Dir {
				d.Nodes[e.Ino].Up = at
			}
		}
	}
	for i, n := range d.Nodes {
		if n.Links == 0 && n.Open == 0 {
			d.Nodes[i] = disk.Node{}
		}
	}
}

// agrees holds what the deed answers against the second way's, and tells it.
func agrees(t *testing.T, d disk.Disk, x deed) (disk.Disk, api.Errno) {
	t.Helper()
	if x.what != "rename" {
		x.b = x.a
	}
	s := second{d: d, x: x}
	want, i, e := s.do()
	got, at, err := x.do(d)
	if told(got) != told(want) || at != i || err != e {
		t.Fatalf("%+v: %d, %d; want %d, %d; of\n%+v\nto\n%+v\nwant\n%+v", x, at, err, i, e, d, got, want)
	}
	if e == api.OK { // P8.7: what else there is stays as it was
		for i, n := range got.Nodes {
			if i < len(d.Nodes) && !s.touched[i] && fmt.Sprint(n) != fmt.Sprint(d.Nodes[i]) {
				t.Fatalf("%+v changed node %d", x, i)
			}
		}
	}
	return got, err
}

// P8.1 to P8.7: each pair of short paths, of one disk, by those who may and may not.
func TestEachPairOfShortPaths(t *testing.T) {
	d := hold(t, dir("a", 61, 1), dir("a/a", 63, 0), file("a/f"), link("l", "a/a"), file("f"), link("a/l", "x"), dir("d", 63, 2))
	d = more(t, d, disk.Node{}, disk.Node{Kind: disk.Dir, Mode: 63, Open: 1})
	d = edit(d, func(l []disk.Node) { // a second name, and one that is open
		l[3].Links, l[7].Open = 2, 1
		l[0].Names = entry.Put(l[0].Names, entry.Entry{Name: "g", Ino: 3})
	})
	right(t, d)
	var paths []string
	parts := []string{".", "..", "a", "f", "l", "x", "d", "g"}
	for _, one := range parts {
		paths = append(paths, one, one+"/")
		for _, two := range parts {
			paths = append(paths, one+"/"+two)
		}
	}
	paths = append(paths, "/", "", "a/a/", "a/a/x", "a/l/", "a/a/../l", "l/x/", "\x00")
	for _, what := range all {
		olds := paths
		if what != "link" && what != "rename" {
			olds = []string{"", "f"}
		}
		for _, old := range olds {
			for _, path := range paths {
				for _, who := range []int{0, 1, 2} {
					for _, from := range []int{0, 1, 9} {
						x := deed{what: what, old: old, path: path, mode: 7, a: change.As{Who: who, From: from}, b: change.As{Who: who, From: 0}}
						got, _ := agrees(t, d, x)
						right(t, got)
					}
				}
			}
		}
	}
}

// somewhere tells a path by draws, and now and then what is none.
func somewhere(draw func(n int) int) string {
	text := strings.Repeat("/", draw(4)/3)
	for range 1 + draw(4) {
		text += []string{"a", "b", "c", "a", "b", "c", "a", "b", "c", ".", ".."}[draw(11)] + "/"
	}
	if draw(4) > 0 {
		text = strings.TrimRight(text, "/")
	}
	if draw(60) == 0 {
		return []string{"", "/", "abcdefghijklm", "\x00", strings.Repeat("/", 101)}[draw(5)]
	}
	return text
}

// P8.1 to P8.7: many deeds, one behind the other, on many disks, while nodes are opened and closed.
func TestManyDisks(t *testing.T) {
	draw := drawing(8)
	seen := map[string]int{}
	for round := range 600 {
		d := disk.New(2+draw(14), draw(40), 63)
		for range 120 {
			x := deed{what: all[[]int{0, 0, 1, 1, 1, 2, 3, 3, 4, 5, 6, 6, 6, 6, 7}[draw(15)]], old: somewhere(draw), path: somewhere(draw), mode: []int{63, 63, 63, 61, 63 - 64, 127, 8, 25}[draw(8)]}
			x.a = change.As{Who: draw(5) % 3, From: max(0, draw(len(d.Nodes)*3+2)-2*len(d.Nodes)-1)}
			x.b = change.As{Who: draw(5) % 3, From: max(0, draw(len(d.Nodes)*3+2)-2*len(d.Nodes)-1)}
			if x.what == "symlink" && draw(30) == 0 {
				x.old = strings.Repeat("x", 99+draw(3))
			}
			var e api.Errno
			d, e = agrees(t, d, x)
			seen[fmt.Sprint(x.what, " ", e)]++
			d = opened(d, draw)
			if !disk.Right(d) {
				t.Fatalf("round %d: %+v: not right: %+v", round, x, d)
			}
		}
	}
	for what, errors := range map[string][]int{
		"make": {0, 1, 2, 3, 4, 5, 7, 8, 9, 10}, "mkdir": {0, 1, 2, 3, 4, 7, 8, 9, 10}, "symlink": {0, 2, 3, 4, 7, 8, 9, 10}, "link": {0, 1, 2, 3, 4, 5, 7, 8, 9},
		"unlink": {0, 2, 4, 5, 7, 8}, "rmdir": {0, 1, 2, 4, 6, 7, 8}, "rename": {0, 1, 2, 4, 5, 6, 7, 8, 9, 15}, "chmod": {0, 2, 4, 7, 8},
	} {
		for _, e := range errors {
			if seen[fmt.Sprint(what, " ", e)] < 3 {
				t.Errorf("too few of %s with %d: %v", what, e, seen)
			}
		}
	}
}

// opened tells d where, now and then, a node is opened or closed.
func opened(d disk.Disk, draw func(n int) int) disk.Disk {
	i := draw(len(d.Nodes))
	n, is := disk.Get(d, i)
	switch what := draw(6); {
	case is && what == 0:
		n.Open++
	case is && what < 4 && n.Open > 0:
		n.Open--
	default:
		return d
	}
	return disk.Settle(disk.Set(d, i, n), i)
}

// P8.7, P8.3, P8.4: what is linked, and unlinked again, is as it was; and what is moved there and back.
func TestThereAndBack(t *testing.T) {
	draw := drawing(9)
	linked, moved, made := 0, 0, 0
	for range 400 {
		d := disk.New(16, 40, 63)
		for range 40 {
			x := deed{what: all[[]int{0, 1, 1, 2, 3}[draw(5)]], old: somewhere(draw), path: somewhere(draw), mode: 63}
			d, _, _ = x.do(d)
		}
		for range 40 {
			old, path := somewhere(draw), somewhere(draw)
			back := func(what string, e api.Errno, undo deed, then disk.Disk, count *int) {
				if e != api.OK {
					return
				}
				*count++
				if got, _, e := undo.do(then); e != api.OK || told(got) != told(d) {
					t.Fatalf("%s %q %q and back: %d\n%+v\n%+v", what, old, path, e, d, got)
				}
			}
			s, _ := walk.Walk(d, 0, 0, path, false)
			o, _ := walk.Walk(d, 0, 0, old, false)
			n, is := disk.Get(d, o.Ino)
			then, e := change.Link(d, change.As{}, old, path)
			back("link", e, deed{what: "unlink", a: change.As{From: s.Dir}, path: s.Name}, then, &linked)
			if s.Ino == -1 && is {
				then, e = change.Rename(d, change.As{}, change.As{}, old, path)
				back("rename", e, deed{what: "rename", a: change.As{From: s.Dir}, b: change.As{From: o.Dir}, old: s.Name, path: o.Name}, then, &moved)
			}
			if n.Kind == disk.Dir && len(d.Nodes) == disk.Used(d) && disk.Used(d) < 16 {
				then, e = change.Mkdir(d, change.As{}, path, 5)
				got, _ := change.Rmdir(then, change.As{From: s.Dir}, s.Name)
				if e == api.OK {
					made++
					if got.Nodes = got.Nodes[:len(d.Nodes)]; told(got) != told(d) {
						t.Fatalf("mkdir %q and back:\n%+v\n%+v", path, d, got)
					}
				}
			}
		}
	}
	if linked < 50 || moved < 50 || made < 50 {
		t.Error("too few: ", linked, moved, made)
	}
}
