package change_test

import (
	"fmt"
	"math"
	"path"
	"slices"
	"strings"
	"testing"

	"flagstone/api"
	"flagstone/change"
	"flagstone/disk"
	"flagstone/entry"
	"flagstone/mode"
)

// thing is a node that is to be made, and its path from the root.
type thing struct {
	at   string
	node disk.Node
}

func dir(at string, mode, owner int) thing {
	return thing{at, disk.Node{Kind: disk.Dir, Mode: mode, Owner: owner}}
}

func file(at string) thing { return thing{at, disk.Node{Kind: disk.File, Mode: 52}} }

func link(at, text string) thing {
	return thing{at, disk.Node{Kind: disk.Link, Mode: 63, Data: text}}
}

// hold tells a right disk that holds these, the first as node 1, the next as node 2, ..
func hold(t *testing.T, these ...thing) disk.Disk {
	t.Helper()
	l := []disk.Node{{Kind: disk.Dir, Mode: 63, Links: 1}}
	numbers := map[string]int{".": 0}
	for _, x := range these {
		up, is := numbers[path.Dir(x.at)]
		if !is {
			t.Fatal(x.at)
		}
		numbers[x.at] = len(l)
		l[up].Names = entry.Put(l[up].Names, entry.Entry{Name: path.Base(x.at), Ino: len(l)})
		x.node.Links = 1
		if x.node.Kind == disk.Dir {
			x.node.Up = up
		}
		l = append(l, x.node)
	}
	return right(t, disk.Disk{Nodes: l, Most: 100, Room: 900})
}

func right(t *testing.T, d disk.Disk) disk.Disk {
	t.Helper()
	if !disk.Right(d) {
		t.Fatalf("not right: %+v", d)
	}
	return d
}

// more tells d with these nodes behind all.
func more(t *testing.T, d disk.Disk, l ...disk.Node) disk.Disk {
	t.Helper()
	d.Nodes = slices.Concat(d.Nodes, l)
	return right(t, d)
}

// edit tells d with memory of its own, after what is done to its nodes.
func edit(d disk.Disk, do func(l []disk.Node)) disk.Disk {
	d.Nodes = slices.Clone(d.Nodes)
	for i := range d.Nodes {
		d.Nodes[i].Names = slices.Clone(d.Nodes[i].Names)
	}
	do(d.Nodes)
	return d
}

// land tells a disk of directories (1, 2, 3, 8), files (4, 5), links (6, 7, 9),
// a free node (10), and an open directory without a name (11).
func land(t *testing.T) disk.Disk {
	d := hold(t, dir("a", 63, 0), dir("a/b", 63, 3), dir("c", 63, 0), file("a/f"), file("f"), link("l", "a"), link("lx", "a/x"), dir("e", 61, 3), link("lf", "f"))
	return more(t, d, disk.Node{}, disk.Node{Kind: disk.Dir, Mode: 63, Open: 1})
}

// deed is a call, and what it is handed beside the disk.
type deed struct {
	what      string
	a         change.As
	old, path string // of symlink, old is the text
	mode      int
	b         change.As // of rename
}

// all is what can be done.
var all = []string{"make", "mkdir", "symlink", "link", "unlink", "rmdir", "rename", "chmod"}

func (x deed) do(d disk.Disk) (made disk.Disk, i int, e api.Errno) {
	switch x.what {
	case "make":
		return change.Make(d, x.a, x.path, x.mode)
	case "mkdir":
		made, e = change.Mkdir(d, x.a, x.path, x.mode)
	case "symlink":
		made, e = change.Symlink(d, x.a, x.old, x.path)
	case "link":
		made, e = change.Link(d, x.a, x.old, x.path)
	case "unlink":
		made, e = change.Unlink(d, x.a, x.path)
	case "rmdir":
		made, e = change.Rmdir(d, x.a, x.path)
	case "rename":
		made, e = change.Rename(d, x.a, x.b, x.old, x.path)
	case "chmod":
		made, e = change.Chmod(d, x.a, x.path, x.mode)
	default:
		panic(x.what)
	}
	return made, 0, e
}

// as tells x, done by who, from a node.
func (x deed) as(who, from int) deed {
	x.a = change.As{Who: who, From: from}
	x.b = x.a
	return x
}

func told(d disk.Disk) string { return fmt.Sprintf("%+v", d) }

// does holds what x answers against a disk, and a number.
func does(t *testing.T, d disk.Disk, x deed, want disk.Disk, i int) {
	t.Helper()
	answers(t, d, x, want, i, api.OK)
	right(t, want)
}

// refuses holds what x answers against an error.
func refuses(t *testing.T, d disk.Disk, x deed, want api.Errno) {
	t.Helper()
	answers(t, d, x, d, 0, want)
}

func answers(t *testing.T, d disk.Disk, x deed, want disk.Disk, i int, e api.Errno) {
	t.Helper()
	before := told(d)
	got, at, err := x.do(d)
	if told(got) != told(want) || at != i || err != e {
		t.Errorf("%+v: %d, %d; want %d, %d:\n%+v\n%+v", x, at, err, i, e, got, want)
	}
	if told(d) != before {
		t.Errorf("%+v changed the disk that was handed in", x)
	}
}

// each asks refuses of all these deeds by the names of calls, with one path.
func each(t *testing.T, d disk.Disk, calls string, who, from int, path string, want api.Errno) {
	t.Helper()
	for _, what := range strings.Fields(calls) {
		refuses(t, d, deed{what: what, old: "/f", path: path, mode: 7}.as(who, from), want)
	}
}

const enter = "make mkdir symlink"

// P8.1, P8.2: what is entered, on the first node that is free.
func TestEnterPutsANewNode(t *testing.T) {
	d := land(t)
	for _, x := range []struct {
		deed deed
		up   int
		node disk.Node
	}{
		{deed{what: "make", path: "x", mode: 52}.as(0, 0), 0, disk.Node{Kind: disk.File, Mode: 52}},
		{deed{what: "make", path: "/x", mode: 0}.as(5, 2), 0, disk.Node{Kind: disk.File, Owner: 5}},
		{deed{what: "make", path: "x", mode: 63}.as(3, 2), 2, disk.Node{Kind: disk.File, Mode: 63, Owner: 3}},
		{deed{what: "make", path: "l/x", mode: 7}.as(-4, 0), 1, disk.Node{Kind: disk.File, Mode: 7, Owner: -4}},
		{deed{what: "mkdir", path: "x", mode: 56}.as(0, 0), 0, disk.Node{Kind: disk.Dir, Mode: 56}},
		{deed{what: "mkdir", path: "a/b/x", mode: 0}.as(5, 0), 2, disk.Node{Kind: disk.Dir, Owner: 5, Up: 2}},
		{deed{what: "mkdir", path: "x", mode: 63}.as(math.MaxInt, 3), 3, disk.Node{Kind: disk.Dir, Mode: 63, Owner: math.MaxInt, Up: 3}},
		{deed{what: "mkdir", path: "../x//", mode: 1}.as(math.MinInt, 1), 0, disk.Node{Kind: disk.Dir, Mode: 1, Owner: math.MinInt}},
		{deed{what: "symlink", old: "t", path: "x"}.as(0, 0), 0, disk.Node{Kind: disk.Link, Mode: 63, Data: "t"}},
		{deed{what: "symlink", old: "/no/../where//", path: "e/../a/x"}.as(9, 0), 1, disk.Node{Kind: disk.Link, Mode: 63, Owner: 9, Data: "/no/../where//"}},
		{deed{what: "symlink", old: "\x00\xff", path: "x"}.as(3, 8), 8, disk.Node{Kind: disk.Link, Mode: 63, Owner: 3, Data: "\x00\xff"}},
	} {
		x.node.Links = 1
		i := 0
		if x.deed.what == "make" {
			i = 10
		}
		does(t, d, x.deed, edit(d, func(l []disk.Node) {
			l[10] = x.node
			l[x.up].Names = entry.Put(l[x.up].Names, entry.Entry{Name: "x", Ino: 10})
		}), i)
	}
}

// P8.1, P8.2: behind all, if no node is free; and what was entered is there, for those who come then.
func TestEnterOneBehindTheOther(t *testing.T) {
	d, a := disk.New(5, 9, 63), change.As{Who: 2}
	d, e := change.Mkdir(d, a, "a", 56)
	d, i, f := change.Make(d, change.As{Who: 2, From: 1}, "f", 48)
	d, g := change.Symlink(d, a, "a/f", "/l")
	d, h := change.Mkdir(d, change.As{Who: 2, From: 1}, "/a/a", 1)
	want := disk.Disk{Most: 5, Room: 9, Nodes: []disk.Node{
		{Kind: disk.Dir, Mode: 63, Links: 1, Names: []entry.Entry{{Name: "a", Ino: 1}, {Name: "l", Ino: 3}}},
		{Kind: disk.Dir, Mode: 56, Owner: 2, Links: 1, Names: []entry.Entry{{Name: "a", Ino: 4}, {Name: "f", Ino: 2}}},
		{Kind: disk.File, Mode: 48, Owner: 2, Links: 1},
		{Kind: disk.Link, Mode: 63, Owner: 2, Links: 1, Data: "a/f"},
		{Kind: disk.Dir, Mode: 1, Owner: 2, Links: 1, Up: 1},
	}}
	if e != api.OK || f != api.OK || g != api.OK || h != api.OK || i != 2 || told(d) != told(want) {
		t.Error(e, f, g, h, i, d)
	}
}

// P8.1: Walk's error, whatever it is.
func TestEnterTellsWalksError(t *testing.T) {
	d := land(t)
	d = edit(d, func(l []disk.Node) { l[2].Mode, l[6].Data = 62, "l" })
	for path, want := range map[string]api.Errno{
		"": api.ErrNone, "x/y": api.ErrNone, "lx/y": api.ErrNone, "x/": api.OK, "f/x": api.ErrNotDir, "f/": api.ErrNotDir, "a/f/.": api.ErrNotDir,
		"l/x": api.ErrLoop, "l/": api.ErrLoop, "a/b/x": api.ErrAccess, "abcdefghijklm": api.ErrLong, strings.Repeat("/", 101): api.ErrLong, "\x00": api.ErrArg, "a/\x00x": api.ErrArg,
	} {
		if want != api.OK {
			each(t, d, enter+" link rename", 1, 0, path, want)
		}
	}
	for _, from := range []int{10, 12, -1, math.MinInt, math.MaxInt} {
		each(t, d, enter+" link rename", 0, from, "x", api.ErrNone)
	}
	each(t, d, enter, 0, 5, "x", api.ErrNotDir)
	each(t, d, enter, 0, 6, "x", api.ErrNotDir)
}

// P8.1: of what is there, also where what is there is a link that leads nowhere.
func TestEnterRefusesWhatIsThere(t *testing.T) {
	d := land(t)
	for _, path := range []string{"a", "a/", "/a", "a/b", "a/b/", "f", "a/f", "l", "l/", "lx", "lf", "/", "//", ".", "./", "..", "a/.", "a/b/..", "l/b", "l/.."} {
		each(t, d, enter+" link", 0, 0, path, api.ErrExists)
		each(t, d, enter+" link", 7, 0, path, api.ErrExists)
	}
	for _, path := range []string{".", "..", "./", "../", "/"} { // also where nobody names the directory
		each(t, d, enter+" link", 7, 11, path, api.ErrExists)
	}
	full := edit(d, func(l []disk.Node) { l[0].Mode = 1 })
	full.Most = 1
	each(t, full, enter+" link", 7, 0, "a", api.ErrExists) // ahead of ErrAccess and of ErrSpace
	each(t, full, enter+" link", 7, 0, "l", api.ErrExists)
}

// P8.1: a directory that nobody names any more takes no names.
func TestEnterRefusesADirectoryWithoutLinks(t *testing.T) {
	d := land(t)
	full := more(t, d, disk.Node{Kind: disk.File, Open: 1})
	full.Most = disk.Used(full)
	full.Nodes = slices.Delete(full.Nodes, 10, 11) // the one that is free
	full = edit(right(t, full), func(l []disk.Node) { l[10].Mode = 61 })
	for _, who := range []int{0, 7} {
		for d, from := range map[*disk.Disk]int{&d: 11, &full: 10} { // ahead of ErrAccess, and of ErrSpace
			each(t, *d, enter+" link", who, from, "x", api.ErrNone)
			each(t, *d, "mkdir link", who, from, "x/", api.ErrNone)
			each(t, *d, "make", who, from, "x/", api.ErrIsDir) // ahead of it
			each(t, *d, "symlink", who, from, "x/", api.ErrNotDir)
		}
	}
	d = edit(d, func(l []disk.Node) { l[3].Open = 1 })
	if _, _, e := change.Make(d, change.As{Who: 7, From: 3}, "x", 0); e != api.OK { // one that is open, and has a name, does
		t.Error(e)
	}
}

// P8.1, P8.3 to P8.5: who may write in a directory, of each mode, for the owner, for others, and for 0.
func TestWhoMayWrite(t *testing.T) {
	for m := range 64 {
		d := hold(t, dir("a", m|9, 3), file("a/f"), dir("a/e", 63, 0), link("a/l", "f"), file("f"), dir("e", 63, 0))
		for _, who := range []int{0, 3, 4, -3, math.MaxInt} {
			may := m&16 != 0 && who == 3 || m&2 != 0 && who != 3 || who == 0
			if may != mode.May(m, 3, who, mode.Write) {
				t.Fatal(m, who)
			}
			for _, x := range []deed{
				{what: "make", path: "a/x"}, {what: "mkdir", path: "a/x"}, {what: "mkdir", path: "a/x/"}, {what: "symlink", old: "t", path: "a/x"},
				{what: "link", old: "f", path: "a/x"}, {what: "link", old: "a/f", path: "a/x"}, {what: "link", old: "a/f", path: "x"},
				{what: "unlink", path: "a/f"}, {what: "unlink", path: "a/l"}, {what: "rmdir", path: "a/e"}, {what: "rmdir", path: "a/e/"},
				{what: "rename", old: "a/f", path: "x"}, {what: "rename", old: "f", path: "a/x"}, {what: "rename", old: "a/f", path: "a/x"},
				{what: "rename", old: "a/f", path: "a/f"}, {what: "rename", old: "f", path: "a/f"}, {what: "rename", old: "e", path: "a/e"},
			} {
				_, _, e := x.as(who, 0).do(d)
				want := api.OK
				if !may && !(x.what == "link" && x.path == "x") { // of a new name's directory alone
					want = api.ErrAccess
				}
				if e != want {
					t.Errorf("%+v by %d, mode %o: %d", x, who, m, e)
				}
			}
		}
	}
}

// P8.5: of each name, its own one is asked.
func TestRenameAsksBoth(t *testing.T) {
	d := hold(t, dir("a", 57, 3), dir("b", 57, 4), file("a/f"), file("b/f"))
	for _, x := range []struct {
		a, b int
		want api.Errno
	}{{3, 4, api.OK}, {0, 4, api.OK}, {3, 0, api.OK}, {0, 0, api.OK}, {4, 3, api.ErrAccess}, {3, 3, api.ErrAccess}, {4, 4, api.ErrAccess}, {0, 3, api.ErrAccess}, {4, 0, api.ErrAccess}} {
		_, e := change.Rename(d, change.As{Who: x.a}, change.As{Who: x.b}, "a/f", "b/f")
		if e != x.want {
			t.Errorf("%+v: %d", x, e)
		}
	}
	d = edit(d, func(l []disk.Node) { l[2].Mode = 48 }) // through b, its owner alone
	x := deed{what: "rename", old: "a/f", path: "../b/x", a: change.As{Who: 3}, b: change.As{Who: 3, From: 1}}
	refuses(t, d, x, api.ErrAccess)
	d = edit(d, func(l []disk.Node) { l[2].Mode = 56 })
	refuses(t, d, x, api.ErrAccess)
	x.b.Who = 4
	does(t, d, x, edit(d, func(l []disk.Node) {
		l[1].Names, l[2].Names = nil, append(l[2].Names, entry.Entry{Name: "x", Ino: 3})
	}), 0)
	x.a.Who = 4
	refuses(t, d, x, api.ErrAccess)
}

// P8.1: disk.Add's error, behind all others.
func TestEnterTellsThatThereIsNoSpace(t *testing.T) {
	d := edit(land(t), func(l []disk.Node) { l[10] = disk.Node{Kind: disk.File, Open: 1, Data: "xyz"} })
	d.Most = len(d.Nodes)
	each(t, right(t, d), enter, 0, 0, "x", api.ErrSpace)
	each(t, d, "mkdir", 0, 0, "x/", api.ErrSpace)
	each(t, d, "make", 0, 0, "x/", api.ErrIsDir)
	each(t, d, "symlink", 0, 0, "x/", api.ErrNotDir)
	each(t, d, enter, 7, 0, "e/x", api.ErrAccess)
	d = land(t)
	d.Room = disk.Bytes(d) + 3
	refuses(t, d, deed{what: "symlink", old: "abcd", path: "x"}, api.ErrSpace)
	for _, x := range []deed{{what: "symlink", old: "abc", path: "x"}, {what: "make", path: "x"}, {what: "mkdir", path: "x"}} {
		if got, _, e := x.do(d); e != api.OK || disk.Used(got) != disk.Used(d)+1 {
			t.Errorf("%+v: %d", x, e)
		}
	}
	d.Room -= 3
	each(t, d, "symlink", 0, 0, "x", api.ErrSpace)
	each(t, d, "symlink", 0, 0, "a", api.ErrExists)
	for _, what := range []string{"make", "mkdir"} { // they take no bytes
		if _, _, e := (deed{what: what, path: "x"}).do(d); e != api.OK {
			t.Error(what, e)
		}
	}
}

// P8.2, P8.6: of modes that are handed in the lowest six bits are taken.
func TestModesHaveSixBits(t *testing.T) {
	d := hold(t, file("f"), dir("a", 3, 0))
	for m, want := range map[int]int{0: 0, 63: 63, 64: 0, 65: 1, 127: 63, 511: 63, 512 + 42: 42, -1: 63, -64: 0, -63: 1, math.MaxInt: 63, math.MinInt: 0, 1<<32 + 5: 5} {
		for what, at := range map[string]int{"make": 3, "mkdir": 3, "chmod": 1} {
			p := "x"
			if what == "chmod" {
				p = "f"
			}
			got, _, e := deed{what: what, path: p, mode: m}.do(d)
			if n, _ := disk.Get(got, at); e != api.OK || n.Mode != want {
				t.Errorf("%s with mode %d: %+v, %d", what, m, n, e)
			}
		}
	}
}

// P8.2: a path that ends with `/`, and names nothing, is a directory's.
func TestEnterByAPathThatEndsWithASlash(t *testing.T) {
	d := land(t)
	d = edit(d, func(l []disk.Node) { l[0].Mode, l[3].Mode = 1, 0 })
	for _, who := range []int{0, 5} { // ahead of ErrAccess
		for _, path := range []string{"x/", "x///", "a/x/", "lx/", "/a/b/x/", "e/x/"} {
			each(t, d, "make", who, 0, path, api.ErrIsDir)
			each(t, d, "symlink", who, 0, path, api.ErrNotDir)
		}
	}
	each(t, d, "make symlink", 5, 0, "x/y/", api.ErrNone) // Walk's error ahead of it
	each(t, d, "make symlink", 5, 0, "f/", api.ErrNotDir)
	each(t, d, "make symlink", 5, 0, "c/x/", api.ErrAccess)
	each(t, d, "make symlink", 5, 0, "a/", api.ErrExists)
	each(t, d, "make symlink", 5, 0, "/", api.ErrExists)
	each(t, d, "mkdir", 5, 0, "x/", api.ErrAccess)
	for _, path := range []string{"a/x", "a/x/", "a//x//", "lx/"} { // a link that leads nowhere is followed
		does(t, d, deed{what: "mkdir", path: path, mode: 61}.as(5, 0), edit(d, func(l []disk.Node) {
			l[10] = disk.Node{Kind: disk.Dir, Mode: 61, Owner: 5, Links: 1, Up: 1}
			l[1].Names = append(l[1].Names, entry.Entry{Name: "x", Ino: 10})
		}), 0)
	}
}

// P8.2: the text of a link; what it says is told ahead of all else.
func TestSymlinkTakesTexts(t *testing.T) {
	if api.MaxPath != 100 {
		t.Fatal(api.MaxPath)
	}
	d := land(t)
	for _, text := range []string{" ", "/", "..", "abcdefghijklm", "\x00", "é", strings.Repeat("/", 100), strings.Repeat("x", 100), strings.Repeat("é", 50)} {
		got, _, e := deed{what: "symlink", old: text, path: "x"}.do(d)
		if n, _ := disk.Get(got, 10); e != api.OK || n.Data != text {
			t.Errorf("%q: %+v, %d", text, n, e)
		}
	}
	d.Room = disk.Bytes(d)
	for _, path := range []string{"x", "a", "x/", "x/y", "", "\x00", "abcdefghijklm", "f/x", "e/x"} {
		refuses(t, d, deed{what: "symlink", old: "", path: path}.as(5, 0), api.ErrNone)
		for _, text := range []string{strings.Repeat("x", 101), strings.Repeat("é", 51), strings.Repeat("/", 101), strings.Repeat("\x00", 300)} {
			refuses(t, d, deed{what: "symlink", old: text, path: path}.as(5, 0), api.ErrLong)
		}
	}
}

// P8.3
func TestLinkGivesAnotherName(t *testing.T) {
	d := land(t)
	for _, x := range []struct {
		deed    deed
		node    int
		up      int
		newName string
	}{
		{deed{what: "link", old: "f", path: "x"}.as(0, 0), 5, 0, "x"},
		{deed{what: "link", old: "/f", path: "c/f"}.as(9, 0), 5, 3, "f"},
		{deed{what: "link", old: "f", path: "../x"}.as(9, 1), 4, 0, "x"},
		{deed{what: "link", old: "l/f", path: "l/b/x"}.as(3, 0), 4, 2, "x"},
		{deed{what: "link", old: "l", path: "x"}.as(3, 0), 6, 0, "x"}, // the link, not what it leads to
		{deed{what: "link", old: "lx", path: "a/x"}.as(3, 0), 7, 1, "x"},
	} {
		does(t, d, x.deed, edit(d, func(l []disk.Node) {
			l[x.node].Links++
			l[x.up].Names = entry.Put(l[x.up].Names, entry.Entry{Name: x.newName, Ino: x.node})
		}), 0)
	}
	d = edit(d, func(l []disk.Node) { l[10] = disk.Node{Kind: disk.File, Open: 1} })
	d.Most = len(d.Nodes) // a name is no node
	d.Room = disk.Bytes(d)
	if _, e := change.Link(right(t, d), change.As{}, "f", "x"); e != api.OK {
		t.Error(e)
	}
}

// P8.3: the errors, each one ahead of those that stand behind it.
func TestLinkRefuses(t *testing.T) {
	d := land(t)
	d = edit(d, func(l []disk.Node) { l[5].Links, l[9].Links = 20, 19 })
	for i := range 19 {
		d.Nodes[3].Names = entry.Put(d.Nodes[3].Names, entry.Entry{Name: fmt.Sprint("f", i), Ino: 5})
		if i < 18 {
			d.Nodes[3].Names = entry.Put(d.Nodes[3].Names, entry.Entry{Name: fmt.Sprint("l", i), Ino: 9})
		}
	}
	right(t, d)
	for _, x := range []struct {
		old, path string
		who, from int
		want      api.Errno
	}{
		{"x/y", "\x00", 0, 0, api.ErrNone},
		{"f/x", "\x00", 0, 0, api.ErrNotDir},
		{"f/", "\x00", 0, 0, api.ErrNotDir},
		{"\x00", "", 0, 0, api.ErrArg},
		{"", "\x00", 0, 0, api.ErrNone},
		{"abcdefghijklm", "\x00", 0, 0, api.ErrLong},
		{"x", "\x00", 0, 0, api.ErrNone},
		{"lx/", "\x00", 0, 0, api.ErrNone},
		{"a", "", 0, 0, api.ErrIsDir},
		{"l/", "\x00", 0, 0, api.ErrIsDir},
		{"/", "\x00", 0, 0, api.ErrIsDir},
		{".", "\x00", 0, 11, api.ErrIsDir},
		{"f", "\x00", 0, 0, api.ErrLinks},
		{"c/f7", "a", 0, 0, api.ErrLinks},
		{"a/f", "\x00", 0, 0, api.ErrArg},
		{"a/f", "abcdefghijklm", 0, 0, api.ErrLong},
		{"a/f", "x/y", 0, 0, api.ErrNone},
		{"a/f", "f/y", 0, 0, api.ErrNotDir},
		{"a/f", "f/", 0, 0, api.ErrNotDir},
		{"a/f", "e/", 7, 0, api.ErrExists},
		{"a/f", "a/f", 7, 0, api.ErrExists},
		{"/a/f", "x/", 7, 11, api.ErrNone},
		{"a/f", "e/x/", 7, 0, api.ErrAccess},
		{"a/f", "e/x", 7, 0, api.ErrAccess},
		{"a/f", "x/", 0, 0, api.ErrNotDir},
		{"a/f", "lx/", 7, 0, api.ErrNotDir},
		{"l", "x/", 7, 0, api.ErrNotDir},
		{"lf", "x", 7, 0, api.OK}, // the 20th name
	} {
		if x.want != api.OK {
			refuses(t, d, deed{what: "link", old: x.old, path: x.path}.as(x.who, x.from), x.want)
			continue
		}
		got, e := change.Link(d, change.As{Who: x.who}, x.old, x.path)
		if n, _ := disk.Get(got, 9); e != api.OK || n.Links != api.MaxLinks || api.MaxLinks != 20 {
			t.Error(n, e)
		}
		refuses(t, got, deed{what: "link", old: x.old, path: "y"}, api.ErrLinks)
	}
}

// P8.4: a name goes, and what it names, if nobody else has it.
func TestUnlink(t *testing.T) {
	d := land(t)
	d = edit(d, func(l []disk.Node) {
		l[5].Links, l[9].Open = 2, 1
		l[3].Names = entry.Put(l[3].Names, entry.Entry{Name: "g", Ino: 5})
	})
	right(t, d)
	for _, x := range []struct {
		deed deed
		do   func(l []disk.Node)
	}{
		{deed{path: "a/f"}, func(l []disk.Node) { l[1].Names, l[4] = entry.Drop(l[1].Names, "f"), disk.Node{} }},
		{deed{path: "l/f"}, func(l []disk.Node) { l[1].Names, l[4] = entry.Drop(l[1].Names, "f"), disk.Node{} }},
		{deed{path: "f"}, func(l []disk.Node) { l[0].Names, l[5].Links = entry.Drop(l[0].Names, "f"), 1 }},
		{deed{path: "/c/../c//g"}, func(l []disk.Node) { l[3].Names, l[5].Links = nil, 1 }},
		{deed{path: "l"}, func(l []disk.Node) { l[0].Names, l[6] = entry.Drop(l[0].Names, "l"), disk.Node{} }},
		{deed{path: "lx"}, func(l []disk.Node) { l[0].Names, l[7] = entry.Drop(l[0].Names, "lx"), disk.Node{} }},
		{deed{path: "lf"}, func(l []disk.Node) { l[0].Names, l[9].Links = entry.Drop(l[0].Names, "lf"), 0 }}, // it is open
	} {
		x.deed.what = "unlink"
		for _, who := range []int{0, 7, math.MinInt} {
			does(t, d, x.deed.as(who, 0), edit(d, x.do), 0)
		}
	}
}

// P8.4: the errors of Unlink, each one ahead of those that stand behind it.
func TestUnlinkRefuses(t *testing.T) {
	d := land(t)
	d = edit(d, func(l []disk.Node) {
		l[0].Mode = 61
		l[8].Names = []entry.Entry{{Name: "f", Ino: 5}}
		l[5].Links = 2
	})
	right(t, d)
	for path, want := range map[string]api.Errno{
		"": api.ErrNone, "\x00": api.ErrArg, "abcdefghijklm": api.ErrLong, "x/y": api.ErrNone, "f/": api.ErrNotDir, "lf/": api.ErrNotDir, "f/x": api.ErrNotDir,
		"x": api.ErrNone, "a/x/": api.ErrNone, "lx/": api.ErrNone,
		"a": api.ErrIsDir, "a/": api.ErrIsDir, "l/": api.ErrIsDir, "/": api.ErrIsDir, ".": api.ErrIsDir, "..": api.ErrIsDir, "a/b/..": api.ErrIsDir, "e": api.ErrIsDir,
		"f": api.ErrAccess, "l": api.ErrAccess, "lx": api.ErrAccess, "e/f": api.ErrAccess,
	} {
		each(t, d, "unlink", 7, 0, path, want)
	}
	each(t, d, "unlink", 7, 11, "x", api.ErrNone)
	each(t, d, "unlink", 7, 11, ".", api.ErrIsDir)
	each(t, d, "unlink", 7, 10, "f", api.ErrNone)
	each(t, d, "unlink", 7, 5, "f", api.ErrNotDir)
}

// P8.4: a directory goes, if it has no names, and nobody has it open.
func TestRmdir(t *testing.T) {
	d := land(t)
	for _, x := range []struct {
		path     string
		from, up int
		node     int
	}{{"a/b", 0, 1, 2}, {"a//b/", 0, 1, 2}, {"l/b", 0, 1, 2}, {"b", 1, 1, 2}, {"../b", 2, 1, 2}, {"c", 0, 0, 3}, {"/c//", 2, 0, 3}, {"../../e", 2, 0, 8}, {"/e", 8, 0, 8}} {
		for _, who := range []int{0, 7} {
			for open := range 3 {
				d := edit(d, func(l []disk.Node) { l[x.node].Open = open })
				does(t, d, deed{what: "rmdir", path: x.path}.as(who, x.from), edit(d, func(l []disk.Node) {
					l[x.up].Names = slices.DeleteFunc(l[x.up].Names, func(e entry.Entry) bool { return e.Ino == x.node })
					l[x.node].Links, l[x.node].Up = 0, 0
					if open == 0 {
						l[x.node] = disk.Node{}
					}
				}), 0)
			}
		}
	}
	d = edit(d, func(l []disk.Node) { l[7].Data = "e" }) // a link to a directory, that is followed for the path's end
	does(t, d, deed{what: "rmdir", path: "lx/"}, edit(d, func(l []disk.Node) { l[0].Names, l[8] = entry.Drop(l[0].Names, "e"), disk.Node{} }), 0)
}

// P8.4: the errors of Rmdir, each one ahead of those that stand behind it.
func TestRmdirRefuses(t *testing.T) {
	d := land(t)
	d = edit(d, func(l []disk.Node) { l[0].Mode, l[1].Mode = 61, 61 })
	for path, want := range map[string]api.Errno{
		"": api.ErrNone, "\x00": api.ErrArg, "abcdefghijklm": api.ErrLong, "x/y": api.ErrNone, "f/": api.ErrNotDir, "f/..": api.ErrNotDir,
		"x": api.ErrNone, "x/": api.ErrNone, "lx/": api.ErrNone,
		"f": api.ErrNotDir, "l": api.ErrNotDir, "lx": api.ErrNotDir, "lf": api.ErrNotDir, "a/f": api.ErrNotDir,
		"/": api.ErrArg, "//": api.ErrArg, ".": api.ErrArg, "./": api.ErrArg, "a/.": api.ErrArg, "a/b/.": api.ErrArg, "l/.": api.ErrArg,
		"..": api.ErrFull, "a/..": api.ErrFull, "a/b/..": api.ErrFull, "e/../": api.ErrFull,
		"a": api.ErrAccess, "a/b": api.ErrAccess, "c/": api.ErrAccess, "l/": api.ErrAccess,
	} {
		each(t, d, "rmdir", 7, 0, path, want)
	}
	for _, path := range []string{"a", "a/", "/a", "l/", "a/b/../../a"} {
		each(t, d, "rmdir", 0, 0, path, api.ErrFull)
	}
	each(t, d, "rmdir", 7, 11, ".", api.ErrArg)
	each(t, d, "rmdir", 7, 11, "..", api.ErrFull)
	each(t, d, "rmdir", 7, 11, "x", api.ErrNone)
	each(t, d, "rmdir", 7, 5, "..", api.ErrNotDir)
	d = edit(d, func(l []disk.Node) { l[7].Data = "/" })
	each(t, d, "rmdir", 0, 0, "lx/", api.ErrArg)
}

// P8.4, P8.1, P8.7: a directory that is open, and has no name any more, is one that takes none.
func TestADirectoryThatGoesWhileItIsOpen(t *testing.T) {
	d := land(t)
	d = edit(d, func(l []disk.Node) { l[2].Open = 2 })
	d, e := change.Rmdir(d, change.As{}, "a/b")
	if n, is := disk.Get(d, 2); e != api.OK || !is || n.Links != 0 || n.Up != 0 || n.Open != 2 || n.Mode != 63 || n.Owner != 3 || !disk.Right(d) {
		t.Fatal(e, n)
	}
	each(t, d, enter+" link rename", 0, 2, "x", api.ErrNone)
	each(t, d, "rmdir unlink rename", 0, 2, "x", api.ErrNone)
	if _, e := change.Mkdir(d, change.As{From: 2}, "../x", 0); e != api.OK { // its way up leads to the root
		t.Error(e)
	}
	does(t, d, deed{what: "chmod", path: ".", mode: 1}.as(3, 2), edit(d, func(l []disk.Node) { l[2].Mode = 1 }), 0)
}

// moves asks does of a rename, by 7, of old to path.
func moves(t *testing.T, d disk.Disk, old, path string, do func(l []disk.Node)) {
	t.Helper()
	for _, who := range []int{0, 7} {
		does(t, d, deed{what: "rename", old: old, path: path}.as(who, 0), edit(d, do), 0)
	}
}

// P8.5: to a name that is not there yet.
func TestRenameToANewName(t *testing.T) {
	d := land(t)
	moves(t, d, "f", "x", func(l []disk.Node) {
		l[0].Names = entry.Put(entry.Drop(l[0].Names, "f"), entry.Entry{Name: "x", Ino: 5})
	})
	moves(t, d, "a/f", "c/x", func(l []disk.Node) {
		l[1].Names, l[3].Names = entry.Drop(l[1].Names, "f"), []entry.Entry{{Name: "x", Ino: 4}}
	})
	moves(t, d, "l", "c/l", func(l []disk.Node) { // the link, not what it leads to
		l[0].Names, l[3].Names = entry.Drop(l[0].Names, "l"), []entry.Entry{{Name: "l", Ino: 6}}
	})
	for _, path := range []string{"x", "x/", "//x//"} {
		moves(t, d, "a", path, func(l []disk.Node) {
			l[0].Names = entry.Put(entry.Drop(l[0].Names, "a"), entry.Entry{Name: "x", Ino: 1})
		})
	}
	for _, old := range []string{"a/b", "a/b/", "/l/b"} {
		moves(t, d, old, "c/b", func(l []disk.Node) {
			l[1].Names, l[3].Names, l[2].Up = entry.Drop(l[1].Names, "b"), []entry.Entry{{Name: "b", Ino: 2}}, 3
		})
	}
	moves(t, d, "a", "c/a", func(l []disk.Node) { // with all that stands beneath
		l[0].Names, l[3].Names, l[1].Up = entry.Drop(l[0].Names, "a"), []entry.Entry{{Name: "a", Ino: 1}}, 3
	})
	moves(t, d, "a/b", "b", func(l []disk.Node) {
		l[1].Names, l[0].Names, l[2].Up = entry.Drop(l[1].Names, "b"), entry.Put(l[0].Names, entry.Entry{Name: "b", Ino: 2}), 0
	})
	moves(t, d, "l/", "x", func(l []disk.Node) { // what it leads to, for the path's end
		l[0].Names = entry.Put(entry.Drop(l[0].Names, "a"), entry.Entry{Name: "x", Ino: 1})
	})
	moves(t, d, "c", "lx/", func(l []disk.Node) {
		l[0].Names, l[1].Names, l[3].Up = entry.Drop(l[0].Names, "c"), entry.Put(l[1].Names, entry.Entry{Name: "x", Ino: 3}), 1
	})
}

// P8.5: to a name that is there: what it named is lost.
func TestRenameToANameThatIsThere(t *testing.T) {
	d := land(t)
	moves(t, d, "f", "a/f", func(l []disk.Node) {
		l[0].Names, l[1].Names, l[4] = entry.Drop(l[0].Names, "f"), entry.Put(l[1].Names, entry.Entry{Name: "f", Ino: 5}), disk.Node{}
	})
	moves(t, d, "f", "l", func(l []disk.Node) {
		l[0].Names, l[6] = entry.Put(entry.Drop(l[0].Names, "f"), entry.Entry{Name: "l", Ino: 5}), disk.Node{}
	})
	moves(t, d, "l", "f", func(l []disk.Node) {
		l[0].Names, l[5] = entry.Put(entry.Drop(l[0].Names, "l"), entry.Entry{Name: "f", Ino: 6}), disk.Node{}
	})
	for _, path := range []string{"c", "c/"} {
		moves(t, d, "a", path, func(l []disk.Node) {
			l[0].Names, l[3] = entry.Put(entry.Drop(l[0].Names, "a"), entry.Entry{Name: "c", Ino: 1}), disk.Node{}
		})
		moves(t, d, "a/b", path, func(l []disk.Node) {
			l[1].Names, l[0].Names, l[2].Up, l[3] = entry.Drop(l[1].Names, "b"), entry.Put(l[0].Names, entry.Entry{Name: "c", Ino: 2}), 0, disk.Node{}
		})
	}
	moves(t, d, "c", "a/b", func(l []disk.Node) {
		l[0].Names, l[1].Names, l[3].Up, l[2] = entry.Drop(l[0].Names, "c"), entry.Put(l[1].Names, entry.Entry{Name: "b", Ino: 3}), 1, disk.Node{}
	})
	d = edit(d, func(l []disk.Node) { // what somebody else has stays
		l[4].Links, l[5].Open, l[2].Open = 3, 2, 1
		l[3].Names = []entry.Entry{{Name: "g", Ino: 4}, {Name: "h", Ino: 4}}
	})
	right(t, d)
	moves(t, d, "f", "c/h", func(l []disk.Node) {
		l[0].Names, l[3].Names, l[4].Links = entry.Drop(l[0].Names, "f"), entry.Put(l[3].Names, entry.Entry{Name: "h", Ino: 5}), 2
	})
	moves(t, d, "c/g", "f", func(l []disk.Node) {
		l[3].Names, l[0].Names, l[5].Links = entry.Drop(l[3].Names, "g"), entry.Put(l[0].Names, entry.Entry{Name: "f", Ino: 4}), 0
	})
	moves(t, d, "e", "a/b", func(l []disk.Node) {
		l[0].Names, l[1].Names, l[8].Up, l[2].Links, l[2].Up = entry.Drop(l[0].Names, "e"), entry.Put(l[1].Names, entry.Entry{Name: "b", Ino: 8}), 1, 0, 0
	})
}

// P8.5: two names of one node both stay, whoever asks; but those who may not are told so.
func TestRenameOfOneNode(t *testing.T) {
	d := land(t)
	d = edit(d, func(l []disk.Node) {
		l[5].Links, l[6].Links = 3, 2
		l[3].Names = []entry.Entry{{Name: "f", Ino: 5}, {Name: "g", Ino: 5}, {Name: "l", Ino: 6}}
	})
	right(t, d)
	for old, path := range map[string]string{"f": "f", "c/f": "c/g", "c/g": "f", "/f": "/c/f", "l": "c/l", "a": "a/", "a/b": "l/b", "l/": "a", "e/": "e", "a/": "l/"} {
		moves(t, d, old, path, func(l []disk.Node) {})
		moves(t, d, path, old, func(l []disk.Node) {})
	}
	d = edit(d, func(l []disk.Node) { l[3].Mode = 61 })
	refuses(t, d, deed{what: "rename", old: "f", path: "c/f"}.as(7, 0), api.ErrAccess)
	refuses(t, d, deed{what: "rename", old: "c/f", path: "f"}.as(7, 0), api.ErrAccess)
	refuses(t, d, deed{what: "rename", old: "f", path: "f/"}.as(7, 0), api.ErrNotDir)
	refuses(t, d, deed{what: "rename", old: "a", path: "a/."}.as(7, 0), api.ErrArg)
}

// P8.5: the errors, each one ahead of those that stand behind it.
func TestRenameRefuses(t *testing.T) {
	d := land(t)
	for _, x := range []struct {
		old, path string
		who       int
		want      api.Errno
	}{
		{"\x00", "abcdefghijklm", 7, api.ErrArg}, {"abcdefghijklm", "\x00", 7, api.ErrLong}, {"x/y", "\x00", 7, api.ErrNone}, {"", "\x00", 7, api.ErrNone}, {"f/", "\x00", 7, api.ErrNotDir}, {"lf/", "", 7, api.ErrNotDir},
		{"x", "\x00", 7, api.ErrNone}, {"lx/", "\x00", 7, api.ErrNone}, {"a/x", "f/", 7, api.ErrNone},
		{"f", "\x00", 7, api.ErrArg}, {"f", "abcdefghijklm", 7, api.ErrLong}, {"f", "x/y", 7, api.ErrNone}, {"f", "", 7, api.ErrNone}, {"f", "f/y", 7, api.ErrNotDir}, {"f", "f/", 7, api.ErrNotDir}, {"a", "f/", 7, api.ErrNotDir}, {"/", "x/y", 7, api.ErrNone}, {".", "f/", 7, api.ErrNotDir},
		{"/", "x", 7, api.ErrArg}, {".", "x", 7, api.ErrArg}, {"..", "x", 7, api.ErrArg}, {"a/.", "x", 7, api.ErrArg}, {"a/..", "x", 7, api.ErrArg}, {"a/b/../", "c/x", 7, api.ErrArg}, {"e/.", "e/x", 7, api.ErrArg},
		{"f", "/", 7, api.ErrArg}, {"f", ".", 7, api.ErrArg}, {"f", "..", 7, api.ErrArg}, {"f", "c/.", 7, api.ErrArg}, {"f", "c/../", 7, api.ErrArg}, {"a", "a/.", 7, api.ErrArg}, {"a/b", "a/b/..", 7, api.ErrArg}, {".", ".", 7, api.ErrArg}, {"/", "/", 7, api.ErrArg}, {"f", "e/.", 7, api.ErrArg},
		{"f", "e/x", 7, api.ErrAccess}, {"a", "e/x/", 7, api.ErrAccess}, {"f", "e/x/", 7, api.ErrAccess}, {"e", "e/x", 7, api.ErrAccess},
		{"a", "a/x", 7, api.ErrInto}, {"a", "a/b/x", 7, api.ErrInto}, {"a", "a/b", 7, api.ErrInto}, {"a", "a/f", 7, api.ErrInto}, {"a", "l/x", 7, api.ErrInto}, {"l/", "l/b/x", 7, api.ErrInto}, {"a", "a/b/../x/", 7, api.ErrInto}, {"a/b", "a/b/x", 7, api.ErrInto}, {"a", "lx/", 7, api.ErrInto}, {"e", "e/x", 0, api.ErrInto},
		{"a", "f", 7, api.ErrNotDir}, {"c", "l", 7, api.ErrNotDir}, {"a", "l", 7, api.ErrNotDir}, {"c", "lx", 7, api.ErrNotDir}, {"a/b", "a/f", 7, api.ErrNotDir},
		{"c", "a", 7, api.ErrFull}, {"c", "a/", 7, api.ErrFull}, {"c", "l/", 7, api.ErrFull}, {"a/b", "a", 7, api.ErrFull},
		{"f", "c", 7, api.ErrIsDir}, {"f", "c/", 7, api.ErrIsDir}, {"f", "a", 7, api.ErrIsDir}, {"a/f", "a", 7, api.ErrIsDir}, {"l", "a", 7, api.ErrIsDir}, {"l", "l/", 7, api.ErrIsDir}, {"f", "e", 7, api.ErrIsDir},
		{"f", "x/", 7, api.ErrNotDir}, {"l", "x/", 7, api.ErrNotDir}, {"f", "a/x//", 7, api.ErrNotDir}, {"lx", "lx/", 7, api.ErrNotDir},
	} {
		refuses(t, d, deed{what: "rename", old: x.old, path: x.path}.as(x.who, 0), x.want)
	}
}

// P8.5: to a directory that nobody names any more: ahead of all that is asked of what is moved.
func TestRenameToADirectoryWithoutLinks(t *testing.T) {
	d := land(t)
	for old, want := range map[string]api.Errno{"/f": api.ErrNone, "/a": api.ErrNone, "/l": api.ErrNone, "/x": api.ErrNone, "/a/.": api.ErrArg, ".": api.ErrArg} {
		refuses(t, d, deed{what: "rename", old: old, path: "x"}.as(7, 11), want)
		refuses(t, d, deed{what: "rename", old: old, path: "x/"}.as(7, 11), want)
	}
	closed := edit(d, func(l []disk.Node) { l[11].Mode = 61 })
	refuses(t, closed, deed{what: "rename", old: "/f", path: "x/"}.as(7, 11), api.ErrAccess)
	refuses(t, closed, deed{what: "rename", old: "/f", path: "x/"}.as(0, 11), api.ErrNone)
	refuses(t, d, deed{what: "rename", old: "/f", path: ".."}.as(7, 11), api.ErrArg)
	does(t, d, deed{what: "rename", old: "../f", path: "../x"}.as(7, 11), edit(d, func(l []disk.Node) {
		l[0].Names = entry.Put(entry.Drop(l[0].Names, "f"), entry.Entry{Name: "x", Ino: 5})
	}), 0)
}

// P8.5: each path begins where its own one says.
func TestRenameFromTwoPlaces(t *testing.T) {
	d := land(t)
	x := deed{what: "rename", a: change.As{Who: 7, From: 1}, b: change.As{Who: 8, From: 3}, old: "f", path: "f"}
	does(t, d, x, edit(d, func(l []disk.Node) {
		l[1].Names, l[3].Names = entry.Drop(l[1].Names, "f"), []entry.Entry{{Name: "f", Ino: 4}}
	}), 0)
	x.a, x.b = x.b, x.a
	refuses(t, d, x, api.ErrNone)
	x.old, x.b.From = ".", 10
	refuses(t, d, x, api.ErrNone)
	x.old, x.path, x.b.From = "../a", "x", 2 // from within what is moved
	refuses(t, d, x, api.ErrInto)
	x.path = "/x"
	does(t, d, x, edit(d, func(l []disk.Node) {
		l[0].Names = entry.Put(entry.Drop(l[0].Names, "a"), entry.Entry{Name: "x", Ino: 1})
	}), 0)
}

// P8.5: the chapter's example, and all depths of it.
func TestRenameIntoItself(t *testing.T) {
	d := hold(t, dir("a", 63, 0))
	refuses(t, d, deed{what: "rename", old: "a", path: "a/b"}, api.ErrInto)
	var these []thing
	deep := "d"
	for range 45 { // 90 bytes
		these = append(these, dir(deep, 63, 0))
		deep += "/d"
	}
	d = hold(t, append(these, dir("e", 63, 0))...)
	for n := 1; n <= 45; n++ {
		old := deep[:2*n-1]
		for m := 1; m <= 45; m++ {
			x := deed{what: "rename", old: old, path: deep[:2*m-1] + "/x"}
			got, _, e := x.do(d)
			if m >= n {
				refuses(t, d, x, api.ErrInto)
			} else if up, _ := disk.Get(got, n); e != api.OK || up.Up != m || !disk.Right(got) {
				t.Errorf("%d to %d: %d", n, m, e)
			}
		}
		if _, _, e := (deed{what: "rename", old: "e", path: old + "/e"}).do(d); e != api.OK {
			t.Error(n, e)
		}
		if _, _, e := (deed{what: "rename", old: old, path: "e"}).do(d); e != api.OK {
			t.Error(n, e)
		}
	}
}

// P8.5: the longest way up that a disk has.
func TestRenameIntoTheDepth(t *testing.T) {
	d := disk.New(api.MaxNodes, 0, 63)
	for i := range api.MaxNodes - 1 {
		var e api.Errno
		if d, e = change.Mkdir(d, change.As{From: i}, "d", 63); e != api.OK {
			t.Fatal(i, e)
		}
	}
	for n := range api.MaxNodes - 1 {
		x := deed{what: "rename", old: "d", path: "x", a: change.As{From: n}, b: change.As{From: api.MaxNodes - 1}}
		refuses(t, d, x, api.ErrInto)
	}
}

// P8.6
func TestChmod(t *testing.T) {
	d := land(t)
	d = edit(d, func(l []disk.Node) { l[5].Owner, l[6].Owner, l[0].Mode = 4, 9, 1 })
	for _, x := range []struct {
		path            string
		who, from, node int
	}{
		{"f", 4, 0, 5}, {"f", 0, 0, 5}, {"lf", 4, 0, 5}, {"lf", 0, 1, -1}, {"../lf", 4, 1, 5}, {"a/b", 3, 0, 2}, {"a/b/", 3, 0, 2}, {".", 3, 2, 2}, {"e/..", 0, 0, 0}, {"/", 0, 5, 0},
		{"l", 0, 0, 1}, {"l/", 0, 0, 1}, {"l/b", 3, 0, 2}, {"e", 3, 0, 8}, {".", 0, 11, 11},
	} {
		for _, m := range []int{0, 7, 42, 63} {
			y := deed{what: "chmod", path: x.path, mode: m}.as(x.who, x.from)
			if x.node < 0 {
				refuses(t, d, y, api.ErrNone)
				continue
			}
			does(t, d, y, edit(d, func(l []disk.Node) { l[x.node].Mode = m }), 0)
		}
	}
}

// P8.6: the errors.
func TestChmodRefuses(t *testing.T) {
	d := land(t)
	d = edit(d, func(l []disk.Node) { l[5].Owner, l[5].Mode, l[6].Owner, l[6].Data, l[2].Mode = 4, 63, 7, "/l", 62 })
	for path, want := range map[string]api.Errno{
		"": api.ErrNone, "\x00": api.ErrArg, "abcdefghijklm": api.ErrLong, "x": api.ErrNone, "x/": api.ErrNone, "x/y": api.ErrNone, "lx": api.ErrNone, "f/": api.ErrNotDir, "lf/": api.ErrNotDir, "l": api.ErrLoop,
		"f": api.ErrAccess, "lf": api.ErrAccess, "a": api.ErrAccess, "/": api.ErrAccess, "a/b": api.ErrAccess, "a/b/x": api.ErrAccess, "a/..": api.ErrAccess,
	} {
		each(t, d, "chmod", 7, 0, path, want) // who 7 may write everywhere, but owns a link alone
	}
	each(t, d, "chmod", 3, 0, "f", api.ErrAccess)
	each(t, d, "chmod", -4, 0, "f", api.ErrAccess)
	each(t, d, "chmod", 4, 10, "f", api.ErrNone)
	each(t, d, "chmod", 4, 5, ".", api.ErrNotDir)
}

// P8.7, R4: an answer, and what is made of it, does not change what it was made from.
func TestDisksDoNotShare(t *testing.T) {
	d := land(t)
	for _, x := range []deed{{what: "make", path: "x"}, {what: "rename", old: "f", path: "x"}, {what: "unlink", path: "f"}, {what: "rmdir", path: "c"}, {what: "link", old: "f", path: "x"}, {what: "chmod", path: "a", mode: 1}} {
		first, _, _ := x.do(d)
		before := told(first)
		for _, what := range all {
			for _, path := range []string{"x", "a/f", "a/b", "lx", "y"} {
				deed{what: what, old: "lf", path: path, mode: 5}.do(first)
				deed{what: what, old: "a/b", path: path, mode: 5}.do(d)
			}
		}
		if told(first) != before {
			t.Errorf("what %+v answered has changed", x)
		}
	}
	if told(d) != told(land(t)) {
		t.Error("the disk that was handed in has changed")
	}
}

// R1: of disks that are not right nothing is said; but the calls end, and do not panic.
func TestNothingPanics(t *testing.T) {
	numbers := []int{math.MinInt, -1, 0, 1, 2, 3, 63, 64, math.MaxInt}
	draw := drawing(3)
	pick := func() int { return numbers[draw(len(numbers))] }
	paths := []string{"", "/", ".", "..", "a", "b", "c", "a/", "b/", "/a/b", "b/a", "a/b/c/a/b/c", "../../a", "\x00", strings.Repeat("a/", 50), strings.Repeat("/", 300), "x", "a/x", "b/x"}
	for range 40000 {
		d := disk.Disk{Most: pick(), Room: pick()}
		for range draw(6) {
			n := disk.Node{Kind: draw(6) - 1, Mode: pick(), Owner: pick(), Links: pick(), Open: pick(), Up: pick(), Data: paths[draw(len(paths))]}
			for range draw(4) {
				n.Names = append(n.Names, entry.Entry{Name: string(rune('a' + draw(3))), Ino: pick()})
			}
			d.Nodes = append(d.Nodes, n)
		}
		x := deed{what: all[draw(len(all))], old: paths[draw(len(paths))], path: paths[draw(len(paths))], mode: pick()}
		x.a, x.b = change.As{Who: pick(), From: pick()}, change.As{Who: draw(2), From: pick()}
		x.do(d)
	}
	round := disk.Disk{Most: 9, Nodes: []disk.Node{ // ways up that go round, and one that ends nowhere
		{Kind: disk.Dir, Mode: 63, Links: 1, Names: []entry.Entry{{Name: "a", Ino: 1}, {Name: "b", Ino: 2}, {Name: "c", Ino: 3}}},
		{Kind: disk.Dir, Mode: 63, Links: 1, Up: 2}, {Kind: disk.Dir, Mode: 63, Links: 1, Up: 1}, {Kind: disk.Dir, Mode: 63, Links: 1, Up: -7},
	}}
	for _, up := range []int{1, 2, 3, -1, 99} {
		round.Nodes[1].Up = up
		for _, path := range []string{"a/x", "b/x", "c/x"} {
			deed{what: "rename", old: "c", path: path}.do(round)
			deed{what: "rename", old: "a", path: path}.do(round)
		}
	}
}

// drawing tells a function that tells numbers from 0 on, each below the one
// that it is handed, in the same order each time.
func drawing(state uint64) func(n int) int {
	return func(n int) int {
		state = state*6364136223846793005 + 1442695040888963407
		return int(state>>33) % n
	}
}
