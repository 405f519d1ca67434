package walk_test

import (
	"fmt"
	"math"
	"path"
	"slices"
	"strings"
	"testing"

	"flagstone/api"
	"flagstone/disk"
	"flagstone/entry"
	"flagstone/mode"
	"flagstone/walk"
)

// thing is a node that is to be made, and its path from the root.
type thing struct {
	at   string
	node disk.Node
}

// ask is what Walk and Node are asked, beside the disk.
type ask struct {
	who, from int
	path      string
	follow    bool
}

func dir(at string, mode, owner int) thing {
	return thing{at, disk.Node{Kind: disk.Dir, Mode: mode, Owner: owner}}
}

func file(at string) thing { return thing{at, disk.Node{Kind: disk.File}} }

func link(at, text string) thing { return thing{at, disk.Node{Kind: disk.Link, Data: text}} }

// hold tells a right disk that holds these, the first as node 1, the next as node 2, ..
func hold(t *testing.T, these ...thing) disk.Disk {
	t.Helper()
	l := []disk.Node{{Kind: disk.Dir, Mode: 63, Links: 1}}
	numbers := map[string]int{".": 0}
	for _, x := range these {
		up, is := numbers[path.Dir(x.at)]
		if !is {
			t.Fatal(x.at)
		}
		numbers[x.at] = len(l)
		l[up].Names = entry.Put(l[up].Names, entry.Entry{Name: path.Base(x.at), Ino: len(l)})
		x.node.Links = 1
		if x.node.Kind == disk.Dir {
			x.node.Up = up
		}
		l = append(l, x.node)
	}
	d := disk.Disk{Nodes: l, Most: len(l), Room: 5000}
	if !disk.Right(d) {
		t.Fatal("the disk is not right")
	}
	return d
}

// land tells a disk of directories (1, 2, 7), files (3, 4), links (5, 6, 8, 9),
// a free node (10), and an open directory without a name (11).
func land(t *testing.T) disk.Disk {
	d := hold(t, dir("a", 63, 0), dir("a/b", 63, 1), file("a/b/f"), file("f"), link("l", "a/b"), link("lf", "f"), dir("a/c", 63, 1), link("a/up", "../f"), link("lx", "a/x"))
	d.Nodes = append(d.Nodes, disk.Node{}, disk.Node{Kind: disk.Dir, Mode: 63, Open: 1})
	d.Most = len(d.Nodes)
	if !disk.Right(d) {
		t.Fatal("the disk is not right")
	}
	return d
}

// leads holds Walk's answer against want, and Node's against want's node.
func leads(t *testing.T, d disk.Disk, a ask, want walk.Spot) {
	t.Helper()
	ino, e := want.Ino, api.OK
	if ino == -1 {
		ino, e = 0, api.ErrNone
	}
	answers(t, d, a, want, api.OK, ino, e)
}

// fails holds both answers against an error.
func fails(t *testing.T, d disk.Disk, a ask, want api.Errno) {
	t.Helper()
	answers(t, d, a, walk.Spot{}, want, 0, want)
}

func answers(t *testing.T, d disk.Disk, a ask, spot walk.Spot, walked api.Errno, ino int, named api.Errno) {
	t.Helper()
	before := fmt.Sprint(d)
	if s, e := walk.Walk(d, a.who, a.from, a.path, a.follow); s != spot || e != walked {
		t.Errorf("Walk of %+v = %+v, %d; want %+v, %d", a, s, e, spot, walked)
	}
	if i, e := walk.Node(d, a.who, a.from, a.path, a.follow); i != ino || e != named {
		t.Errorf("Node of %+v = %d, %d; want %d, %d", a, i, e, ino, named)
	}
	if fmt.Sprint(d) != before {
		t.Errorf("%+v changed the disk", a)
	}
}

// both asks leads with the last link followed, and not.
func both(t *testing.T, d disk.Disk, who, from int, path string, want walk.Spot) {
	t.Helper()
	leads(t, d, ask{who, from, path, false}, want)
	leads(t, d, ask{who, from, path, true}, want)
}

// bothFail asks fails with the last link followed, and not.
func bothFail(t *testing.T, d disk.Disk, who, from int, path string, want api.Errno) {
	t.Helper()
	fails(t, d, ask{who, from, path, false}, want)
	fails(t, d, ask{who, from, path, true}, want)
}

// P7.1: the chapter's example, and paths through directories.
func TestWalkThroughDirectories(t *testing.T) {
	both(t, hold(t, dir("a", 63, 0)), 1, 0, "/a/b", walk.Spot{Dir: 1, Name: "b", Ino: -1})
	d := land(t)
	for _, x := range []struct {
		from int
		path string
		want walk.Spot
	}{
		{0, "a", walk.Spot{Dir: 0, Name: "a", Ino: 1}},
		{0, "/a", walk.Spot{Dir: 0, Name: "a", Ino: 1}},
		{0, "///a", walk.Spot{Dir: 0, Name: "a", Ino: 1}},
		{0, "a/", walk.Spot{Dir: 0, Name: "a", Ino: 1, Slash: true}},
		{0, "a///", walk.Spot{Dir: 0, Name: "a", Ino: 1, Slash: true}},
		{0, "a/b", walk.Spot{Dir: 1, Name: "b", Ino: 2}},
		{0, "a//b", walk.Spot{Dir: 1, Name: "b", Ino: 2}},
		{0, "//a//b//", walk.Spot{Dir: 1, Name: "b", Ino: 2, Slash: true}},
		{0, "a/b/f", walk.Spot{Dir: 2, Name: "f", Ino: 3}},
		{1, "b", walk.Spot{Dir: 1, Name: "b", Ino: 2}},
		{1, "b/f", walk.Spot{Dir: 2, Name: "f", Ino: 3}},
		{2, "f", walk.Spot{Dir: 2, Name: "f", Ino: 3}},
		{0, "f", walk.Spot{Dir: 0, Name: "f", Ino: 4}},
		{2, "/f", walk.Spot{Dir: 0, Name: "f", Ino: 4}},
		{2, "/a", walk.Spot{Dir: 0, Name: "a", Ino: 1}},
		{7, "/a/b", walk.Spot{Dir: 1, Name: "b", Ino: 2}},
	} {
		both(t, d, 1, x.from, x.path, x.want)
		both(t, d, 0, x.from, x.path, x.want)
	}
}

// P7.1: a path of no part.
func TestWalkOfNoPart(t *testing.T) {
	d := land(t)
	d.Nodes[0].Mode = 0 // nothing is looked up, so nobody is asked whether he may
	for _, from := range []int{0, 2, 4, 5, 10, -1, 99} {
		for _, size := range []int{1, 2, 99, 100} {
			both(t, d, 1, from, strings.Repeat("/", size), walk.Spot{Slash: true})
		}
		bothFail(t, d, 1, from, strings.Repeat("/", 101), api.ErrLong)
		bothFail(t, d, 1, from, "", api.ErrNone)
	}
	bothFail(t, disk.Disk{}, 1, 0, "/", api.ErrNone)
	bothFail(t, disk.Disk{Nodes: []disk.Node{{Kind: disk.File}}}, 1, 0, "/", api.ErrNotDir)
}

// P7.1: of a path that may not be, that is told ahead of all else.
func TestWalkTellsWhatIsNoPath(t *testing.T) {
	d := land(t)
	long := strings.Repeat("a/../", 19) // 95 bytes
	for _, from := range []int{0, 4, -1, 99} {
		bothFail(t, d, 1, from, "", api.ErrNone)
		bothFail(t, d, 1, from, "x\x00/y", api.ErrArg)
		bothFail(t, d, 1, from, "\x00", api.ErrArg)
		bothFail(t, d, 1, from, "x/f/y/\x00", api.ErrArg)
		bothFail(t, d, 1, from, "abcdefghijklm", api.ErrLong)
		bothFail(t, d, 1, from, "x/abcdefghijklm/y", api.ErrLong)
		bothFail(t, d, 1, from, long+"a/b/f/", api.ErrLong)
		bothFail(t, d, 1, from, strings.Repeat("x", 300), api.ErrLong)
		bothFail(t, d, 1, from, long+"\x00/////", api.ErrLong)
		bothFail(t, d, 1, from, "abcdefghijklm\x00", api.ErrArg)
	}
	both(t, d, 1, 0, long+"a/b/f", walk.Spot{Dir: 2, Name: "f", Ino: 3}) // 100 bytes
	both(t, d, 1, 0, "abcdefghijkl", walk.Spot{Dir: 0, Name: "abcdefghijkl", Ino: -1})
	both(t, d, 1, 0, strings.Repeat("./", 50), walk.Spot{Dir: 0, Name: ".", Ino: 0, Slash: true})
}

// P7.1: where the way begins.
func TestWalkBeginsSomewhere(t *testing.T) {
	d := land(t)
	for _, from := range []int{10, 12, 100, -1, -2, 1 << 32, math.MinInt, math.MaxInt} { // node 10 is free
		for _, path := range []string{"a", "x", ".", "..", "a/", "a/b/", "x/y"} {
			bothFail(t, d, 1, from, path, api.ErrNone)
			bothFail(t, d, 0, from, path, api.ErrNone)
		}
		both(t, d, 1, from, "/a", walk.Spot{Dir: 0, Name: "a", Ino: 1})
		both(t, d, 1, from, "/a/b/..", walk.Spot{Dir: 2, Name: "..", Ino: 1})
	}
	for _, from := range []int{3, 4, 5, 6, 8, 9} { // files, and links, that are not followed there
		for _, path := range []string{"a", "x", ".", "..", "f", "a/", "./", "x/y"} {
			bothFail(t, d, 1, from, path, api.ErrNotDir)
			bothFail(t, d, 0, from, path, api.ErrNotDir)
		}
		both(t, d, 1, from, "/f", walk.Spot{Dir: 0, Name: "f", Ino: 4})
	}
	both(t, d, 1, 11, ".", walk.Spot{Dir: 11, Name: ".", Ino: 11}) // one without a name
	both(t, d, 1, 11, "..", walk.Spot{Dir: 11, Name: "..", Ino: 0})
	both(t, d, 1, 11, "../a", walk.Spot{Dir: 0, Name: "a", Ino: 1})
	both(t, d, 1, 11, "a", walk.Spot{Dir: 11, Name: "a", Ino: -1})
	bothFail(t, d, 1, 11, "a/b", api.ErrNone)
}

// P7.1
func TestWalkBySelfAndUp(t *testing.T) {
	d := land(t)
	for _, x := range []struct {
		from int
		path string
		want walk.Spot
	}{
		{0, ".", walk.Spot{Dir: 0, Name: ".", Ino: 0}},
		{0, "./", walk.Spot{Dir: 0, Name: ".", Ino: 0, Slash: true}},
		{0, "..", walk.Spot{Dir: 0, Name: "..", Ino: 0}},
		{0, "../..", walk.Spot{Dir: 0, Name: "..", Ino: 0}},
		{0, "/../", walk.Spot{Dir: 0, Name: "..", Ino: 0, Slash: true}},
		{2, ".", walk.Spot{Dir: 2, Name: ".", Ino: 2}},
		{2, "./.", walk.Spot{Dir: 2, Name: ".", Ino: 2}},
		{2, "..", walk.Spot{Dir: 2, Name: "..", Ino: 1}},
		{2, "../", walk.Spot{Dir: 2, Name: "..", Ino: 1, Slash: true}},
		{2, "../..", walk.Spot{Dir: 1, Name: "..", Ino: 0}},
		{2, "../../..", walk.Spot{Dir: 0, Name: "..", Ino: 0}},
		{2, "/.", walk.Spot{Dir: 0, Name: ".", Ino: 0}},
		{2, "../c", walk.Spot{Dir: 1, Name: "c", Ino: 7}},
		{0, "a/.", walk.Spot{Dir: 1, Name: ".", Ino: 1}},
		{0, "a/..", walk.Spot{Dir: 1, Name: "..", Ino: 0}},
		{0, "a/./b/../c/.", walk.Spot{Dir: 7, Name: ".", Ino: 7}},
		{0, "...", walk.Spot{Dir: 0, Name: "...", Ino: -1}}, // a name as others
		{0, "..a", walk.Spot{Dir: 0, Name: "..a", Ino: -1}},
	} {
		both(t, d, 1, x.from, x.path, x.want)
	}
	for _, path := range []string{"f/.", "f/..", "f/./", "f/../a", "a/b/f/."} {
		bothFail(t, d, 1, 0, path, api.ErrNotDir)
	}
	for _, path := range []string{"x/.", "x/..", "x/../a", "a/x/..", ".../."} {
		bothFail(t, d, 1, 0, path, api.ErrNone)
	}
}

// P7.1: names are bytes, whatever they say.
func TestWalkByNamesOfAllSorts(t *testing.T) {
	l := []string{"\x01", " ", "...", ".a", "A", "a", "a ", "a.", "aa", "abcdefghijkl", "é", "\xc3", "\xff", "\xff\xfe"}
	var these []thing
	for _, name := range l {
		these = append(these, dir(name, 63, 0))
	}
	d := hold(t, these...)
	for i, name := range l {
		both(t, d, 1, 0, name, walk.Spot{Dir: 0, Name: name, Ino: i + 1})
		both(t, d, 1, 0, name+"/x", walk.Spot{Dir: i + 1, Name: "x", Ino: -1})
		both(t, d, 1, i+1, "../"+name+"/", walk.Spot{Dir: 0, Name: name, Ino: i + 1, Slash: true})
	}
	for _, name := range []string{"\x02", "b", "AA", "abcdefghijk", "e", "\xc3\xaa", "\xa9", "\xfe", "\xff\xff"} {
		both(t, d, 1, 0, name, walk.Spot{Dir: 0, Name: name, Ino: -1})
		bothFail(t, d, 1, 0, name+"/x", api.ErrNone)
	}
}

// P7.1: of a name that is not there.
func TestWalkToWhatIsNotThere(t *testing.T) {
	d := land(t)
	both(t, d, 1, 0, "x", walk.Spot{Dir: 0, Name: "x", Ino: -1})
	both(t, d, 1, 0, "x/", walk.Spot{Dir: 0, Name: "x", Ino: -1, Slash: true})
	both(t, d, 1, 0, "a/b/x//", walk.Spot{Dir: 2, Name: "x", Ino: -1, Slash: true})
	both(t, d, 1, 2, "x", walk.Spot{Dir: 2, Name: "x", Ino: -1})
	both(t, d, 1, 2, "../../x", walk.Spot{Dir: 0, Name: "x", Ino: -1})
	both(t, d, 1, 1, "f", walk.Spot{Dir: 1, Name: "f", Ino: -1}) // just elsewhere
	for _, path := range []string{"x/y", "x/y/", "x//y", "a/x/y", "a/b/x/y", "x/f/y", "a/a/b"} {
		bothFail(t, d, 1, 0, path, api.ErrNone)
	}
}

// P7.1: of what is no directory.
func TestWalkThroughWhatIsNoDirectory(t *testing.T) {
	d := land(t)
	for _, path := range []string{"f/", "f//", "f/x", "f/x/", "f/f", "a/b/f/", "a/b/f/x/y", "lf/", "lf/x", "lf/.", "a/up/", "a/up/x", "l/f/", "l/f/x"} {
		bothFail(t, d, 1, 0, path, api.ErrNotDir)
		bothFail(t, d, 0, 0, path, api.ErrNotDir)
	}
	both(t, d, 1, 0, "a/b/f", walk.Spot{Dir: 2, Name: "f", Ino: 3})
	both(t, d, 1, 0, "l/f", walk.Spot{Dir: 2, Name: "f", Ino: 3})
	d.Nodes[0].Mode, d.Nodes[4].Mode = 1, 0 // what a file may is not asked on the way
	bothFail(t, d, 1, 0, "f/x", api.ErrNotDir)
	bothFail(t, d, 1, 4, "x", api.ErrNotDir)
}

// P7.1: who may go through: of each mode, for the owner, for others, and for 0.
func TestWalkAsksWhoMayGoThrough(t *testing.T) {
	for m := range 64 {
		d := hold(t, dir("a", m, 3), dir("a/b", 63, 0), link("a/l", "/"), link("up", "a/b"))
		for _, who := range []int{0, 3, 4, -3, math.MinInt, math.MaxInt} {
			if (m&8 != 0 && who == 3 || m&1 != 0 && who != 3 || who == 0) != mode.May(m, 3, who, mode.Exec) {
				t.Fatal(m, who)
			}
			both(t, d, who, 0, "a", walk.Spot{Dir: 0, Name: "a", Ino: 1}) // what is named last is not gone through
			both(t, d, who, 0, "a/", walk.Spot{Dir: 0, Name: "a", Ino: 1, Slash: true})
			both(t, d, who, 2, "..", walk.Spot{Dir: 2, Name: "..", Ino: 1})
			leads(t, d, ask{who, 0, "up", false}, walk.Spot{Dir: 0, Name: "up", Ino: 4})
			for path, want := range map[string]walk.Spot{
				"a/b": {Dir: 1, Name: "b", Ino: 2}, "a/.": {Dir: 1, Name: ".", Ino: 1}, "a/..": {Dir: 1, Name: ".."}, "a/x": {Dir: 1, Name: "x", Ino: -1},
				"a/l/a": {Dir: 0, Name: "a", Ino: 1}, "a/b/x": {Dir: 2, Name: "x", Ino: -1}, "up/x": {Dir: 2, Name: "x", Ino: -1}, "up/": {Dir: 1, Name: "b", Ino: 2, Slash: true},
			} {
				if mode.May(m, 3, who, mode.Exec) {
					both(t, d, who, 0, path, want)
				} else {
					bothFail(t, d, who, 0, path, api.ErrAccess)
				}
			}
			for _, path := range []string{"b", ".", "..", "x", "x/y", "b/x/y"} { // where the way begins, too; ahead of ErrNone
				if !mode.May(m, 3, who, mode.Exec) {
					bothFail(t, d, who, 1, path, api.ErrAccess)
				}
			}
		}
	}
}

// P7.1: which error is told is a matter of what comes first on the way.
func TestWalkTellsTheFirstErrorOnTheWay(t *testing.T) {
	d := hold(t, dir("no", 62, 0), dir("yes", 1, 0), file("f"), link("o", "o"), link("bad", ""), link("e", "abcdefghijklm"))
	for path, want := range map[string]api.Errno{
		"no/x/y": api.ErrAccess, "x/no/y": api.ErrNone, "f/no/y": api.ErrNotDir, "yes/x/y": api.ErrNone, "no/..": api.ErrAccess,
		"o/x/y": api.ErrLoop, "yes/../o/no": api.ErrLoop, "no/../o/x": api.ErrAccess, "bad/x": api.ErrNone, "f/bad": api.ErrNotDir,
		"e/f/x": api.ErrLong, "f/e": api.ErrNotDir, "no/e": api.ErrAccess, "x/e": api.ErrNone, "o/": api.ErrLoop, "bad/": api.ErrNone, "e/": api.ErrLong,
	} {
		bothFail(t, d, 1, 0, path, want)
	}
	d.Nodes[0].Mode = 62
	for _, path := range []string{"o/", "bad/", "e/", "f/", "x/", "x/y", "f/x", "."} {
		bothFail(t, d, 1, 0, path, api.ErrAccess)
		bothFail(t, d, 1, 1, "/"+path, api.ErrAccess)
	}
}

// P7.1: what a path ends with, and what is followed.
func TestWalkFollowsLinks(t *testing.T) {
	d := land(t)
	leads(t, d, ask{1, 0, "l", false}, walk.Spot{Dir: 0, Name: "l", Ino: 5})
	leads(t, d, ask{1, 0, "l", true}, walk.Spot{Dir: 1, Name: "b", Ino: 2})
	both(t, d, 1, 0, "l/", walk.Spot{Dir: 1, Name: "b", Ino: 2, Slash: true})
	both(t, d, 1, 0, "l/.", walk.Spot{Dir: 2, Name: ".", Ino: 2})
	both(t, d, 1, 0, "l/..", walk.Spot{Dir: 2, Name: "..", Ino: 1}) // up of where the link leads
	both(t, d, 1, 0, "l/x", walk.Spot{Dir: 2, Name: "x", Ino: -1})
	both(t, d, 1, 0, "l/../c", walk.Spot{Dir: 1, Name: "c", Ino: 7})
	leads(t, d, ask{1, 0, "lf", false}, walk.Spot{Dir: 0, Name: "lf", Ino: 6})
	leads(t, d, ask{1, 0, "lf", true}, walk.Spot{Dir: 0, Name: "f", Ino: 4})
	leads(t, d, ask{1, 2, "../up", false}, walk.Spot{Dir: 1, Name: "up", Ino: 8})
	leads(t, d, ask{1, 2, "../up", true}, walk.Spot{Dir: 0, Name: "f", Ino: 4}) // from where the link stands
	leads(t, d, ask{1, 7, "/l", true}, walk.Spot{Dir: 1, Name: "b", Ino: 2})
	leads(t, d, ask{1, 0, "lx", false}, walk.Spot{Dir: 0, Name: "lx", Ino: 9})
	leads(t, d, ask{1, 0, "lx", true}, walk.Spot{Dir: 1, Name: "x", Ino: -1})
	both(t, d, 1, 0, "lx/", walk.Spot{Dir: 1, Name: "x", Ino: -1, Slash: true})
	bothFail(t, d, 1, 0, "lx/y", api.ErrNone)
	bothFail(t, d, 1, 0, "lx/.", api.ErrNone)
	for _, i := range []int{5, 6, 8, 9} { // what a link may is not asked
		d.Nodes[i].Mode, d.Nodes[i].Owner = 0, 7
	}
	leads(t, d, ask{1, 0, "l", true}, walk.Spot{Dir: 1, Name: "b", Ino: 2})
	leads(t, d, ask{1, 0, "a/up", true}, walk.Spot{Dir: 0, Name: "f", Ino: 4})
}

// P7.1: texts of links.
func TestWalkByTextsOfAllSorts(t *testing.T) {
	full := strings.Repeat("b/../", 19) + "/////" // 100 bytes
	for _, x := range []struct {
		text   string
		want   walk.Spot // of a/l, followed
		beyond walk.Spot // of a/l/x, that is told where the link leads to a directory
	}{
		{"b", walk.Spot{Dir: 1, Name: "b", Ino: 2}, walk.Spot{Dir: 2, Name: "x", Ino: -1}},
		{"b/", walk.Spot{Dir: 1, Name: "b", Ino: 2}, walk.Spot{Dir: 2, Name: "x", Ino: -1}},
		{".", walk.Spot{Dir: 1, Name: ".", Ino: 1}, walk.Spot{Dir: 1, Name: "x", Ino: -1}},
		{"./", walk.Spot{Dir: 1, Name: ".", Ino: 1}, walk.Spot{Dir: 1, Name: "x", Ino: -1}},
		{"..", walk.Spot{Dir: 1, Name: "..", Ino: 0}, walk.Spot{Dir: 0, Name: "x", Ino: -1}},
		{"/a", walk.Spot{Dir: 0, Name: "a", Ino: 1}, walk.Spot{Dir: 1, Name: "x", Ino: -1}},
		{"//a//b//", walk.Spot{Dir: 1, Name: "b", Ino: 2}, walk.Spot{Dir: 2, Name: "x", Ino: -1}},
		{"/", walk.Spot{}, walk.Spot{Dir: 0, Name: "x", Ino: -1}},
		{"///", walk.Spot{}, walk.Spot{Dir: 0, Name: "x", Ino: -1}},
		{"/.", walk.Spot{Dir: 0, Name: ".", Ino: 0}, walk.Spot{Dir: 0, Name: "x", Ino: -1}},
		{"m", walk.Spot{Dir: 0, Name: "a", Ino: 1}, walk.Spot{Dir: 1, Name: "x", Ino: -1}}, // a link again
		{"m/b", walk.Spot{Dir: 1, Name: "b", Ino: 2}, walk.Spot{Dir: 2, Name: "x", Ino: -1}},
		{"/a/m/", walk.Spot{Dir: 0, Name: "a", Ino: 1}, walk.Spot{Dir: 1, Name: "x", Ino: -1}},
		{"top", walk.Spot{}, walk.Spot{Dir: 0, Name: "x", Ino: -1}},
		{full[:95], walk.Spot{Dir: 2, Name: "..", Ino: 1}, walk.Spot{Dir: 1, Name: "x", Ino: -1}},
		{full, walk.Spot{Dir: 2, Name: "..", Ino: 1}, walk.Spot{Dir: 1, Name: "x", Ino: -1}},
		{strings.Repeat("/", 100), walk.Spot{}, walk.Spot{Dir: 0, Name: "x", Ino: -1}},
	} {
		d := hold(t, dir("a", 63, 0), dir("a/b", 63, 0), link("a/l", x.text), link("a/m", "/a"), link("a/top", "//"))
		leads(t, d, ask{1, 0, "a/l", false}, walk.Spot{Dir: 1, Name: "l", Ino: 3})
		leads(t, d, ask{1, 0, "a/l", true}, x.want)
		leads(t, d, ask{1, 2, "../l", true}, x.want)
		both(t, d, 1, 0, "a/l/x", x.beyond)
		both(t, d, 1, 0, "a/l/"+strings.Repeat("./", 47)+"x", x.beyond) // with the link's, more than a path may have
		x.want.Slash, x.beyond.Slash = true, true
		both(t, d, 1, 0, "a/l/", x.want)
		both(t, d, 1, 0, "/a//l//", x.want)
		both(t, d, 1, 0, "a/l/x/", x.beyond)
	}
}

// P7.1: what path ends with stays what it was, whatever a link's text ends with.
func TestWalkKeepsWhatThePathEndsWith(t *testing.T) {
	d := hold(t, file("f"), link("l", "f/"), link("x", "y/"), link("m", "l"), link("top", "/"))
	leads(t, d, ask{1, 0, "l", true}, walk.Spot{Dir: 0, Name: "f", Ino: 1})
	leads(t, d, ask{1, 0, "m", true}, walk.Spot{Dir: 0, Name: "f", Ino: 1})
	leads(t, d, ask{1, 0, "x", true}, walk.Spot{Dir: 0, Name: "y", Ino: -1})
	both(t, d, 1, 0, "x/", walk.Spot{Dir: 0, Name: "y", Ino: -1, Slash: true})
	for _, path := range []string{"l/", "m/", "l/z", "m/z", "l/."} {
		bothFail(t, d, 1, 0, path, api.ErrNotDir)
	}
	leads(t, d, ask{1, 0, "top", true}, walk.Spot{})
	both(t, d, 1, 0, "top/", walk.Spot{Slash: true})
	both(t, d, 1, 0, "top/top/", walk.Spot{Slash: true})
	leads(t, d, ask{1, 0, "top/top", false}, walk.Spot{Dir: 0, Name: "top", Ino: 5})
	d.Nodes[0].Mode = 0
	fails(t, d, ask{1, 0, "top", true}, api.ErrAccess)
	leads(t, d, ask{0, 0, "top", true}, walk.Spot{})
}

// P7.1: nobody is asked whether he may go through the root, where a link leads to it and no part is left.
func TestWalkEndsAtTheRoot(t *testing.T) {
	d := hold(t, dir("a", 63, 0), link("a/top", "/"))
	d.Nodes[0].Mode = 62
	leads(t, d, ask{1, 1, "top", true}, walk.Spot{})
	both(t, d, 1, 1, "top/", walk.Spot{Slash: true})
	both(t, d, 1, 1, "..", walk.Spot{Dir: 1, Name: "..", Ino: 0})
	bothFail(t, d, 1, 1, "top/.", api.ErrAccess)
	bothFail(t, d, 1, 1, "../.", api.ErrAccess)
}

// P7.1: texts of links that are no paths; they are told when they are followed, and not ahead of that.
func TestWalkRefusesTextsThatAreNoPaths(t *testing.T) {
	for text, want := range map[string]api.Errno{
		"": api.ErrNone, "a\x00": api.ErrArg, "\x00": api.ErrArg, "abcdefghijklm": api.ErrLong, "a/abcdefghijklm/..": api.ErrLong,
		strings.Repeat("/", 101): api.ErrLong, strings.Repeat("a", 100): api.ErrLong, strings.Repeat("./", 50) + ".": api.ErrLong,
		strings.Repeat("\x00", 101): api.ErrLong, "abcdefghijklm\x00": api.ErrArg, strings.Repeat("/", 1500): api.ErrLong,
	} {
		d := hold(t, link("l", text), link("m", "l"))
		leads(t, d, ask{1, 0, "l", false}, walk.Spot{Dir: 0, Name: "l", Ino: 1})
		leads(t, d, ask{1, 0, "m", false}, walk.Spot{Dir: 0, Name: "m", Ino: 2})
		fails(t, d, ask{1, 0, "l", true}, want)
		fails(t, d, ask{1, 0, "m", true}, want)
		bothFail(t, d, 1, 0, "l/", want)
		bothFail(t, d, 1, 0, "m/", want)
		bothFail(t, d, 1, 0, "l/x", want)
	}
}

// row tells links 1, 2, .. n, each of which leads to the one ahead of it, and the first to a directory.
func row(t *testing.T, n int, last string) disk.Disk {
	these := []thing{link("l1", last)}
	for i := 2; i <= n; i++ {
		these = append(these, link(fmt.Sprint("l", i), fmt.Sprint("l", i-1)))
	}
	return hold(t, append(these, dir("a", 63, 0), link("a/back", ".."))...)
}

// P7.1, P7.3: links that lead to links.
func TestWalkFollowsEightLinks(t *testing.T) {
	if api.MaxHops != 8 {
		t.Fatal(api.MaxHops)
	}
	d := row(t, 12, "a")
	for n := 1; n <= 12; n++ {
		name := fmt.Sprint("l", n)
		leads(t, d, ask{1, 0, name, false}, walk.Spot{Dir: 0, Name: name, Ino: n})
		if n > 8 {
			fails(t, d, ask{1, 0, name, true}, api.ErrLoop)
			bothFail(t, d, 1, 0, name+"/", api.ErrLoop)
			bothFail(t, d, 1, 0, name+"/x", api.ErrLoop)
			continue
		}
		leads(t, d, ask{1, 0, name, true}, walk.Spot{Dir: 0, Name: "a", Ino: 13})
		both(t, d, 1, 0, name+"/", walk.Spot{Dir: 0, Name: "a", Ino: 13, Slash: true})
		both(t, d, 1, 0, name+"/x", walk.Spot{Dir: 13, Name: "x", Ino: -1})
	}
}

// P7.1, P7.3: links count on all of the way, whether in each other or one behind the other.
func TestWalkCountsLinksOfAllOfTheWay(t *testing.T) {
	d := row(t, 8, "a")
	for i := 1; i <= 8; i++ {
		first := fmt.Sprint("l", i, "/") // i links, and then some that lead back
		for more := range 9 {
			path := first + strings.Repeat("back/a/", more)
			switch {
			case i+more <= 8:
				both(t, d, 1, 0, path+"x", walk.Spot{Dir: 9, Name: "x", Ino: -1})
			default:
				bothFail(t, d, 1, 0, path+"x", api.ErrLoop)
			}
			if i+more <= 8 { // a link that is not followed does not count
				leads(t, d, ask{1, 0, path + "back", false}, walk.Spot{Dir: 9, Name: "back", Ino: 10})
			}
			if i+more == 8 {
				fails(t, d, ask{1, 0, path + "back", true}, api.ErrLoop)
				bothFail(t, d, 1, 0, path+"back/", api.ErrLoop)
			}
		}
	}
}

// P7.1: too many links are told ahead of a text that is no path; and what lacks is told behind them.
func TestWalkTellsTooManyLinksFirst(t *testing.T) {
	for text, want := range map[string]api.Errno{"": api.ErrNone, "\x00": api.ErrArg, "abcdefghijklm": api.ErrLong, "x/y": api.ErrNone, "a/x/y": api.ErrNone} {
		d := row(t, 9, text)
		fails(t, d, ask{1, 0, "l8", true}, want)
		fails(t, d, ask{1, 0, "l9", true}, api.ErrLoop)
		bothFail(t, d, 1, 0, "l8/", want)
		bothFail(t, d, 1, 0, "l9/", api.ErrLoop)
	}
}

// P7.1, and the document's second example.
func TestWalkOfLinksThatGoRound(t *testing.T) {
	d := hold(t, dir("a", 63, 0), link("b", "a/../b"), link("o", "o"), link("p", "q"), link("q", "/p"), link("r", "r/x"), link("s", "./s/"))
	for i, name := range []string{"b", "o", "p", "q", "r", "s"} {
		leads(t, d, ask{1, 0, name, false}, walk.Spot{Dir: 0, Name: name, Ino: i + 2})
		fails(t, d, ask{1, 0, name, true}, api.ErrLoop)
		bothFail(t, d, 1, 0, name+"/", api.ErrLoop)
		bothFail(t, d, 1, 0, name+"/x", api.ErrLoop)
		bothFail(t, d, 1, 0, name+"/..", api.ErrLoop)
	}
}

// R1: of disks that are not right nothing is said; but the calls end, and do not panic.
func TestNothingPanics(t *testing.T) {
	numbers := []int{math.MinInt, -1, 0, 1, 2, 3, 63, 64, math.MaxInt}
	draw := drawing(3)
	pick := func() int { return numbers[draw(len(numbers))] }
	paths := []string{"", "/", ".", "..", "a", "b/", "/a/b", "a/b/c/a/b/c", "../../a", "\x00", strings.Repeat("a/", 50), strings.Repeat("/", 300)}
	for range 20000 {
		var d disk.Disk
		for range draw(6) {
			n := disk.Node{Kind: draw(6) - 1, Mode: pick(), Owner: pick(), Up: pick(), Data: paths[draw(len(paths))]}
			for range draw(4) {
				n.Names = append(n.Names, entry.Entry{Name: string(rune('a' + draw(3))), Ino: pick()})
			}
			d.Nodes = append(d.Nodes, n)
		}
		walk.Walk(d, pick(), pick(), paths[draw(len(paths))], draw(2) == 0)
		walk.Node(d, pick(), pick(), paths[draw(len(paths))], draw(2) == 0)
	}
}

// drawing tells a function that tells numbers from 0 on, each below the one
// that it is handed, in the same order each time.
func drawing(state uint64) func(n int) int {
	return func(n int) int {
		state = state*6364136223846793005 + 1442695040888963407
		return int(state>>33) % n
	}
}

// P7.1: an answer does not hang on what was asked ahead of it.
func TestWalkHasNoMemory(t *testing.T) {
	d := land(t)
	asks := []ask{{1, 0, "a/b/f", false}, {1, 0, "l", true}, {1, 0, "x/y", true}, {1, 2, "..", false}, {1, 4, "x", true}, {1, 0, "/", false}}
	told := func(a ask) string {
		s, e := walk.Walk(d, a.who, a.from, a.path, a.follow)
		return fmt.Sprint(s, e)
	}
	var first []string
	for _, a := range asks {
		first = append(first, told(a))
	}
	for i, a := range slices.Backward(asks) {
		if told(a) != first[i] {
			t.Errorf("%+v: %s, and then %s", a, first[i], told(a))
		}
	}
}
