package tree_test

import (
	"fmt"
	"math"
	"path"
	"slices"
	"strings"
	"testing"

	"flagstone/disk"
	"flagstone/entry"
	"flagstone/tree"
)

type (
	line  = tree.Line
	lines = []tree.Line
	names = []entry.Entry
)

// far are numbers that are no node's.
var far = []int{math.MinInt, math.MinInt + 1, -1 << 32, -100, -2, -1, 1000, 1 << 31, 1 << 32, 1<<32 + 1, math.MaxInt - 1, math.MaxInt}

// thing is a node that is to be made, and its path from the root; or one more
// name of a node that was made, if of is not empty.
type thing struct {
	at   string
	node disk.Node
	of   string
}

func dir(at string, mode int) thing {
	return thing{at: at, node: disk.Node{Kind: disk.Dir, Mode: mode}}
}

func file(at string, mode int, data string) thing {
	return thing{at: at, node: disk.Node{Kind: disk.File, Mode: mode, Data: data}}
}

func link(at, text string) thing {
	return thing{at: at, node: disk.Node{Kind: disk.Link, Mode: 63, Data: text}}
}

func name(at, of string) thing { return thing{at: at, of: of} }

// hold tells a right disk that holds these, the first as node 1, the next that
// is not but a name as node 2, ..
func hold(t testing.TB, these ...thing) disk.Disk {
	t.Helper()
	l := []disk.Node{{Kind: disk.Dir, Mode: 63, Links: 1}}
	numbers := map[string]int{".": 0}
	for _, x := range these {
		up, is := numbers[path.Dir(x.at)]
		if !is {
			t.Fatal(x.at)
		}
		ino := len(l)
		if x.of != "" {
			ino = numbers[x.of]
		} else {
			l = append(l, x.node)
		}
		numbers[x.at] = ino
		l[ino].Links++
		l[up].Names = entry.Put(l[up].Names, entry.Entry{Name: path.Base(x.at), Ino: ino})
		if l[ino].Kind == disk.Dir {
			l[ino].Up = up
		}
	}
	return right(t, disk.Disk{Nodes: l, Most: len(l), Room: 5000})
}

func right(t testing.TB, d disk.Disk) disk.Disk {
	t.Helper()
	if !disk.Right(d) {
		t.Fatalf("not right: %+v", d)
	}
	return d
}

// own tells d with memory of its own, and room behind the ends of its lists,
// that nobody may write to.
func own(d disk.Disk) disk.Disk {
	d.Nodes = roomy(d.Nodes)
	for i := range d.Nodes {
		d.Nodes[i].Names = roomy(d.Nodes[i].Names)
	}
	return d
}

func roomy[T any](l []T) []T { return append(make([]T, 0, len(l)+3), l...) }

// whole tells all of d, what stands behind the ends of its lists, too.
func whole(d disk.Disk) string {
	s := fmt.Sprintf("%+v", d.Nodes[:cap(d.Nodes)])
	for _, n := range d.Nodes {
		s += fmt.Sprintf("%+v", n.Names[:cap(n.Names)])
	}
	return s
}

// stands holds what the calls tell of node ino of d, and that they leave d as it was.
func stands(t testing.TB, d disk.Disk, ino int, want lines, inos []int, deep int) {
	t.Helper()
	d = own(d)
	before := whole(d)
	if got := tree.List(d, ino); !slices.Equal(got, want) {
		t.Errorf("List of %d = %+v, want %+v", ino, got, want)
	}
	if got := tree.Inside(d, ino); !slices.Equal(got, inos) {
		t.Errorf("Inside of %d = %v, want %v", ino, got, inos)
	}
	if got := tree.Depth(d, ino); got != deep {
		t.Errorf("Depth of %d = %d, want %d", ino, got, deep)
	}
	if !tree.Same(d, ino, d, ino) {
		t.Errorf("%d is not the same as itself", ino)
	}
	if whole(d) != before {
		t.Errorf("the disk that was handed in has changed: %s, and was %s", whole(d), before)
	}
}

// nothing holds that there is no node ino of d.
func nothing(t testing.TB, d disk.Disk, ino int) {
	t.Helper()
	stands(t, d, ino, nil, nil, 0)
}

// paths tells the paths of all lines.
func paths(l lines) []string {
	var out []string
	for _, x := range l {
		out = append(out, x.Path)
	}
	return out
}

// same holds whether two trees are the same, either one ahead.
func same(t testing.TB, d disk.Disk, a int, e disk.Disk, b int, want bool) {
	t.Helper()
	d, e = own(d), own(e)
	before := whole(d) + whole(e)
	if tree.Same(d, a, e, b) != want || tree.Same(e, b, d, a) != want {
		t.Errorf("Same(%+v, %d, %+v, %d) is not %v", d, a, e, b, want)
	}
	if whole(d)+whole(e) != before {
		t.Error("Same changes what it is handed")
	}
}

// land tells a disk of directories (1, 2, 6), files (3, 4: 4 has three names),
// links (5, 7), a free node (8), and a directory, a file and a link that are
// open and have no names (9, 10, 11).
func land(t testing.TB) disk.Disk {
	d := hold(t, dir("a", 7), dir("a/b", 1), file("a/b/f", 52, "hey"), file("f", 5, "x"), link("a/l", "/"), dir("c", 0), link("c/l", "../a/b"), name("a/f", "f"), name("c/g", "f"))
	d.Nodes = append(d.Nodes, disk.Node{}, disk.Node{Kind: disk.Dir, Mode: 9, Owner: 3, Open: 2}, disk.Node{Kind: disk.File, Mode: 8, Open: 1, Data: "\x00"}, disk.Node{Kind: disk.Link, Mode: 63, Open: 1, Data: "."})
	d.Most = len(d.Nodes)
	return right(t, d)
}

// P14.1: the chapter's example.
func TestExample(t *testing.T) {
	d := hold(t, dir("a", 63), file("a/b", 63, ""))
	if got := paths(tree.List(d, 0)); !slices.Equal(got, []string{"", "a", "a/b"}) {
		t.Error(got)
	}
}

// P14.1, P14.2: from each node of a disk, of each kind.
func TestEachNode(t *testing.T) {
	d := land(t)
	f, l := line{"", disk.File, 5, "x"}, line{"", disk.Link, 63, "../a/b"}
	stands(t, d, 0, lines{
		{"", disk.Dir, 63, ""},
		{"a", disk.Dir, 7, ""},
		{"a/b", disk.Dir, 1, ""},
		{"a/b/f", disk.File, 52, "hey"},
		{"a/f", disk.File, 5, "x"},
		{"a/l", disk.Link, 63, "/"},
		{"c", disk.Dir, 0, ""},
		{"c/g", disk.File, 5, "x"},
		{"c/l", disk.Link, 63, "../a/b"},
		{"f", disk.File, 5, "x"},
	}, []int{0, 1, 2, 3, 4, 5, 6, 4, 7, 4}, 4)
	stands(t, d, 1, lines{
		{"", disk.Dir, 7, ""},
		{"b", disk.Dir, 1, ""},
		{"b/f", disk.File, 52, "hey"},
		{"f", disk.File, 5, "x"},
		{"l", disk.Link, 63, "/"},
	}, []int{1, 2, 3, 4, 5}, 3)
	stands(t, d, 2, lines{{"", disk.Dir, 1, ""}, {"f", disk.File, 52, "hey"}}, []int{2, 3}, 2)
	stands(t, d, 3, lines{{"", disk.File, 52, "hey"}}, []int{3}, 1)
	stands(t, d, 4, lines{f}, []int{4}, 1)
	stands(t, d, 5, lines{{"", disk.Link, 63, "/"}}, []int{5}, 1)
	stands(t, d, 6, lines{{"", disk.Dir, 0, ""}, {"g", disk.File, 5, "x"}, {"l", disk.Link, 63, "../a/b"}}, []int{6, 4, 7}, 2)
	stands(t, d, 7, lines{l}, []int{7}, 1)
	nothing(t, d, 8)
	stands(t, d, 9, lines{{"", disk.Dir, 9, ""}}, []int{9}, 1) // without a name
	stands(t, d, 10, lines{{"", disk.File, 8, "\x00"}}, []int{10}, 1)
	stands(t, d, 11, lines{{"", disk.Link, 63, "."}}, []int{11}, 1)
	nothing(t, d, 12)
}

// P14.1, P14.2: no such node.
func TestNoNode(t *testing.T) {
	for _, d := range []disk.Disk{land(t), hold(t), {}, {Most: 9, Room: 9}} {
		for _, ino := range append(slices.Clone(far), len(d.Nodes), len(d.Nodes)+1) {
			nothing(t, d, ino)
		}
	}
	nothing(t, disk.Disk{}, 0)
}

// P14.1, P14.2: a disk of the root alone.
func TestNewDisk(t *testing.T) {
	for mode := range 64 {
		stands(t, disk.New(1, 0, mode), 0, lines{{"", disk.Dir, mode, ""}}, []int{0}, 1)
	}
}

// P14.1: names are told as they stand, byte by byte, and what a name begins
// with is not told behind what stands beneath it.
func TestOrder(t *testing.T) {
	l := []string{"\x01", "\n", " ", "!", "*", "-", "...", ".a", "0", "A", "Z", "\\", "a", "a b", "a!", "a-", "aa", "abcdefghijkl", "b", "é", "\xc3", "\xff", "\xff\xff"}
	var these []thing
	for _, x := range l {
		these = append(these, dir(x, 7), file(x+"/"+x, 5, x))
	}
	slices.Sort(l)
	want, inos := lines{{"", disk.Dir, 63, ""}}, []int{0}
	for _, x := range l {
		want = append(want, line{x, disk.Dir, 7, ""}, line{x + "/" + x, disk.File, 5, x})
		i := slices.IndexFunc(these, func(y thing) bool { return y.at == x })
		inos = append(inos, i+1, i+2)
	}
	stands(t, hold(t, these...), 0, want, inos, 3)
}

// P14.1: each mode and each kind is told, and all of the data, whatever bytes it has.
func TestWhatALineHas(t *testing.T) {
	for mode := range 64 {
		for _, data := range []string{"", "x", "/", "a/b", "\x00\xff\n", "é", strings.Repeat("x", 1000)} {
			d := hold(t, file("a", mode, data), link("b", data), dir("c", mode))
			d.Nodes[1].Owner, d.Nodes[2].Owner, d.Nodes[3].Owner = 3, -7, 9
			d.Nodes[1].Open, d.Nodes[2].Mode, d.Nodes[3].Open = 4, 63-mode, 2
			stands(t, right(t, d), 0, lines{{"", disk.Dir, 63, ""}, {"a", disk.File, mode, data}, {"b", disk.Link, 63 - mode, data}, {"c", disk.Dir, mode, ""}}, []int{0, 1, 2, 3}, 2)
		}
	}
}

// P14.1: a name that a node has besides is a line besides, also in one directory.
func TestManyNamesOfOneNode(t *testing.T) {
	these := []thing{dir("d", 63), file("f000", 5, "x")}
	want, inos := lines{{"", disk.Dir, 63, ""}, {"d", disk.Dir, 63, ""}}, []int{0, 1}
	for i := range 150 {
		at := fmt.Sprintf("d/g%03d", i)
		these = append(these, name(at, "f000"))
		want, inos = append(want, line{at, disk.File, 5, "x"}), append(inos, 2)
	}
	stands(t, hold(t, these...), 0, append(want, line{"f000", disk.File, 5, "x"}), append(inos, 2), 3)
}

// P14.1: links are not followed, wherever they lead; nobody is asked for rights.
func TestLinksAndRights(t *testing.T) {
	for _, text := range []string{"/", ".", "..", "a", "/a", "x", "../a", "b"} {
		d := hold(t, dir("a", 0), link("a/b", text), dir("c", 0))
		d.Nodes[0].Mode = 0
		stands(t, d, 0, lines{{"", disk.Dir, 0, ""}, {"a", disk.Dir, 0, ""}, {"a/b", disk.Link, 63, text}, {"c", disk.Dir, 0, ""}}, []int{0, 1, 2, 3}, 3)
	}
}

// P14.1, P14.2: a hundred nodes, each beneath the one ahead of it; the paths
// are longer than any that a call takes.
func TestLongWay(t *testing.T) {
	l := []disk.Node{{Kind: disk.Dir, Mode: 63, Links: 1}}
	want, inos := lines{{"", disk.Dir, 63, ""}}, []int{0}
	for i := 1; i < 100; i++ {
		text := fmt.Sprintf("longname%04d", i)
		l[i-1].Names = names{{Name: text, Ino: i}}
		l = append(l, disk.Node{Kind: disk.Dir, Mode: i % 64, Links: 1, Up: i - 1})
		want, inos = append(want, line{path.Join(want[i-1].Path, text), disk.Dir, i % 64, ""}), append(inos, i)
	}
	d := right(t, disk.Disk{Nodes: l, Most: 100})
	stands(t, d, 0, want, inos, 100)
	for i := range 100 {
		if tree.Depth(d, i) != 100-i {
			t.Error(i, tree.Depth(d, i))
		}
	}
	d.Nodes[99].Kind = disk.File
	if d.Nodes[99].Up = 0; tree.Depth(right(t, d), 0) != 100 { // a file counts as a directory does
		t.Error(tree.Depth(d, 0))
	}
}

// P14.2: the deepest one counts, wherever it stands among others.
func TestDepthOfTheDeepest(t *testing.T) {
	for i, at := range []string{"a/b/c", "m/b/c", "z/b/c"} {
		these := []thing{dir("a", 1), dir("a/b", 1), dir("m", 1), dir("m/b", 1), dir("z", 1), dir("z/b", 1)}
		if d := hold(t, these...); tree.Depth(d, 0) != 3 {
			t.Error(tree.Depth(d, 0))
		}
		d := hold(t, append(these, dir(at, 1))...)
		for j := range 3 {
			want := 2
			if i == j {
				want = 3
			}
			if got := tree.Depth(d, 2*j+1); got != want || tree.Depth(d, 0) != 4 {
				t.Errorf("%s: Depth of %d = %d, of 0 = %d", at, 2*j+1, got, tree.Depth(d, 0))
			}
		}
	}
	if d := hold(t, dir("a", 1), link("a/l", "/a/l/a/l"), link("b", "a")); tree.Depth(d, 0) != 3 { // links lead no deeper
		t.Error(tree.Depth(d, 0))
	}
}

// base is what trees are held against: beneath its directories 1 and 2 stand alike.
func base() []thing {
	return []thing{dir("a", 7), dir("b", 7), file("a/f", 5, "x"), file("b/f", 5, "x"), link("a/l", "f"), link("b/l", "f"), dir("a/d", 1), dir("b/d", 1)}
}

// P14.2: what differs in a line, or lacks one, is not the same.
func TestSameTellsLinesApart(t *testing.T) {
	d := hold(t, base()...)
	same(t, d, 1, d, 2, true)
	same(t, d, 0, d, 1, false)
	for _, x := range []thing{file("b/f", 4, "x"), file("b/f", 5, "y"), file("b/f", 5, ""), file("b/f", 5, "xx"), file("b/g", 5, "x"), file("b/e", 5, "x"), link("b/f", "x"), dir("b/f", 5), file("b/d/f", 5, "x"), file("f", 5, "x")} {
		l := base()
		l[3] = x
		if x.at == "b/d/f" {
			l = append(slices.Delete(l, 3, 4), x)
		}
		e := hold(t, l...)
		same(t, e, 1, e, 2, false)
		same(t, d, 2, e, 2, false)
		same(t, d, 0, e, 0, false)
		same(t, d, 1, e, 1, true)
	}
	for _, x := range []thing{file("b/a", 5, "x"), file("b/z", 5, "x"), dir("b/d/d", 1), name("b/g", "a/f")} { // a line more
		e := hold(t, append(base(), x)...)
		same(t, e, 1, e, 2, false)
		same(t, d, 2, e, 2, false)
		same(t, d, 1, e, 1, true)
	}
}

// P14.2: what no line has may differ: numbers, owners, links, who has it open,
// and the disk.
func TestSameTellsNothingElseApart(t *testing.T) {
	d := hold(t, base()...)
	e := hold(t, dir("z", 0), link("l", "f"), dir("z/y", 7), dir("z/y/d", 1), name("z/y/l", "l"), file("z/y/f", 5, "x"))
	same(t, d, 1, e, 3, true)
	same(t, d, 2, e, 3, true)
	same(t, d, 5, e, 2, true) // links
	for i := range d.Nodes {
		f := own(d)
		f.Nodes[i].Owner, f.Nodes[i].Open = -4, 7
		same(t, d, 0, right(t, f), 0, true)
	}
	f := own(d)
	f.Most, f.Room = 77, 99
	same(t, d, 0, right(t, f), 0, true)
	one := hold(t, file("a", 5, "x"), name("b", "a"))
	two := hold(t, file("a", 5, "x"), file("b", 5, "x"))
	same(t, one, 0, two, 0, true) // whether two names name one node is in no line
	one.Nodes = slices.Concat(one.Nodes, []disk.Node{{Kind: disk.File, Mode: 5, Open: 1, Data: "x"}})
	one.Most++
	same(t, right(t, one), 2, two, 2, true) // nor whether it has a name
}

// P14.2: where there is no node, there are no lines.
func TestSameOfNoNode(t *testing.T) {
	d := land(t)
	for _, a := range append(slices.Clone(far), 8, 12) {
		for _, b := range append(slices.Clone(far), 8, 12) {
			same(t, d, a, d, b, true)
			same(t, d, a, disk.Disk{}, b, true)
		}
		for _, b := range []int{0, 1, 3, 7, 9, 10, 11} {
			same(t, d, a, d, b, false)
			same(t, disk.Disk{}, a, d, b, false)
		}
	}
}

// P14.1: what was told is the caller's own.
func TestAnswersAreNew(t *testing.T) {
	d := land(t)
	l, inos := tree.List(d, 0), tree.Inside(d, 0)
	clear(l[:cap(l)])
	clear(inos[:cap(inos)])
	before := whole(land(t))
	if whole(d) != before || len(tree.List(d, 0)) != 10 || tree.List(d, 0)[1].Path != "a" || tree.Inside(d, 0)[1] != 1 {
		t.Error("what was told is shared with what is told then, or with the disk")
	}
}

// Of disks that are not right nothing is said; but the calls end, and do not panic.
func TestNothingPanics(t *testing.T) {
	numbers := []int{math.MinInt, -1, 0, 1, 2, 3, 4, 63, 64, math.MaxInt}
	draw := drawing(3)
	pick := func() int { return numbers[draw(len(numbers))] }
	for range 20000 {
		d := disk.Disk{Most: pick(), Room: pick()}
		for range draw(6) {
			n := disk.Node{Kind: draw(6) - 1, Mode: pick(), Owner: pick(), Links: pick(), Open: pick(), Up: pick(), Data: "x"}
			for range draw(4) {
				n.Names = append(n.Names, entry.Entry{Name: []string{"", "a", "b", "/", ".", "a/b"}[draw(6)], Ino: pick()})
			}
			d.Nodes = append(d.Nodes, n)
		}
		a := pick()
		tree.List(d, a)
		tree.Inside(d, a)
		tree.Same(d, a, d, pick())
		tree.Depth(d, a)
	}
	round := slices.Repeat([]disk.Node{{Kind: disk.Dir, Names: names{{Name: "a", Ino: 1}}}}, 100)
	tree.List(disk.Disk{Nodes: round}, 0)
	tree.Depth(disk.Disk{Nodes: round}, 7)
}

// drawing tells a function that tells numbers from 0 on, each below the one
// that it is handed, in the same order each time.
func drawing(state uint64) func(n int) int {
	return func(n int) int {
		state = state*6364136223846793005 + 1442695040888963407
		return int(state>>33) % n
	}
}
