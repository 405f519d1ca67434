package tree_test

import (
	"fmt"
	"slices"
	"strings"
	"testing"

	"flagstone/change"
	"flagstone/disk"
	"flagstone/entry"
	"flagstone/tree"
	"flagstone/walk"
)

// found is a name that stands beneath a node, and the parts of the way to it.
type found struct {
	parts []string
	ino   int
}

// climbed tells what stands at and beneath ino by another way than the
// program: from each name of the disk up to ino, and sorted by the parts.
func climbed(d disk.Disk, ino int) []found {
	if ino < 0 || ino >= len(d.Nodes) || d.Nodes[ino].Kind == disk.Free {
		return nil
	}
	all := []found{{nil, ino}}
	for holder, n := range d.Nodes {
		for _, e := range n.Names {
			if parts, is := climb(d, holder, ino); is {
				all = append(all, found{append(parts, e.Name), e.Ino})
			}
		}
	}
	slices.SortFunc(all, func(a, b found) int { return slices.Compare(a.parts, b.parts) })
	return all
}

// climb tells the parts of the way from the node top down to the directory at.
func climb(d disk.Disk, at, top int) ([]string, bool) {
	var parts []string
	for at != top {
		if at == 0 {
			return nil, false
		}
		up := d.Nodes[at].Up
		i := slices.IndexFunc(d.Nodes[up].Names, func(e entry.Entry) bool { return e.Ino == at })
		if i < 0 {
			return nil, false
		}
		parts = slices.Insert(parts, 0, d.Nodes[up].Names[i].Name)
		at = up
	}
	return parts, true
}

// agrees holds the calls against the second way, from each node of d.
func agrees(t testing.TB, d disk.Disk) {
	t.Helper()
	for ino := -1; ino <= len(d.Nodes); ino++ {
		var want lines
		var inos []int
		deep := 0
		for _, f := range climbed(d, ino) {
			n := d.Nodes[f.ino]
			want = append(want, line{strings.Join(f.parts, "/"), n.Kind, n.Mode, n.Data})
			inos = append(inos, f.ino)
			deep = max(deep, 1+len(f.parts))
		}
		stands(t, d, ino, want, inos, deep)
		follows(t, d, ino)
	}
}

// follows holds P14.3, and that what stands beneath a name is told as from the
// node that it names.
func follows(t testing.TB, d disk.Disk, ino int) {
	t.Helper()
	l, inos := tree.List(d, ino), tree.Inside(d, ino)
	if len(l) != len(inos) {
		t.Fatalf("%d: %d lines, %d nodes", ino, len(l), len(inos))
	}
	if len(inos) > 0 && (inos[0] != ino || slices.Contains(inos[1:], ino)) {
		t.Fatalf("%d stands beneath itself: %v", ino, inos)
	}
	for i, x := range l {
		if x.Path == "" {
			continue
		}
		if at, e := walk.Walk(d, 0, ino, x.Path, false); at.Ino != inos[i] { // 0 may all
			t.Fatalf("from %d, %q leads to %+v, %d; told is %d", ino, x.Path, at, e, inos[i])
		}
		for j, y := range tree.List(d, inos[i]) {
			if y.Path != "" {
				y.Path = "/" + y.Path
			}
			if y.Path = x.Path + y.Path; l[i+j] != y {
				t.Fatalf("%d: %+v, from %d: %+v", ino, l[i+j], inos[i], y)
			}
		}
	}
}

// P14.1 to P14.3: each way in which five directories can stand, by each
// numbering of them, with a file in the last one.
func TestEachShape(t *testing.T) {
	seen := 0
	var grow func(ups []int)
	grow = func(ups []int) {
		if len(ups) < 6 {
			for up := range 6 {
				grow(append(slices.Clip(ups), up))
			}
			return
		}
		d := disk.Disk{Most: 7, Room: 9, Nodes: []disk.Node{{Kind: disk.Dir, Mode: 63, Links: 1}}}
		for i := 1; i < 6; i++ {
			d.Nodes = append(d.Nodes, disk.Node{Kind: disk.Dir, Mode: i, Links: 1, Up: ups[i]})
		}
		d.Nodes = append(d.Nodes, disk.Node{Kind: disk.File, Links: 1, Data: "x"})
		for i := 1; i < 6; i++ { // the greater the number, the lesser the name
			d.Nodes[ups[i]].Names = entry.Put(d.Nodes[ups[i]].Names, entry.Entry{Name: string(rune('z' - i)), Ino: i})
		}
		d.Nodes[5].Names = entry.Put(d.Nodes[5].Names, entry.Entry{Name: "m", Ino: 6})
		if disk.Right(d) {
			seen++
			agrees(t, d)
		}
	}
	grow([]int{0})
	if seen != 1296 { // as many as there are trees of six nodes, by Cayley
		t.Error(seen)
	}
}

// some tells a right disk by draws: what is made, linked, moved and dropped,
// while now and then a node is open.
func some(t testing.TB, draw func(n int) int) disk.Disk {
	d := disk.New(3+draw(28), draw(60), 63)
	where := func() string {
		at := ""
		for range 1 + draw(5) {
			at += "/" + []string{"a", "a", "b", "a."}[draw(4)]
		}
		return at
	}
	for range draw(300) {
		a := change.As{}
		switch draw(10) {
		case 0, 1, 2:
			d, _ = change.Mkdir(d, a, where(), draw(64))
		case 3, 4:
			d, _, _ = change.Make(d, a, where(), draw(64))
		case 5:
			d, _ = change.Symlink(d, a, where(), where())
		case 6:
			d, _ = change.Link(d, a, where(), where())
		case 7:
			d, _ = change.Rename(d, a, a, where(), where())
		case 8:
			d, _ = change.Unlink(d, a, where())
		case 9:
			i := draw(len(d.Nodes))
			n, is := disk.Get(d, i)
			if n.Open = 1; is && i > 0 {
				d = disk.Set(d, i, n)
			}
		}
	}
	return right(t, d)
}

// P14.1 to P14.3: many disks, each from all of its nodes; and two of them are
// the same where their lines are.
func TestManyDisks(t *testing.T) {
	draw := drawing(14)
	seen := map[string]int{}
	last := hold(t)
	for range 300 {
		d := some(t, draw)
		agrees(t, d)
		seen[fmt.Sprint("deep ", tree.Depth(d, 0))]++
		for a := -1; a <= len(d.Nodes); a++ {
			for range 3 {
				b := draw(len(last.Nodes)+2) - 1
				want := fmt.Sprint(tree.List(d, a)) == fmt.Sprint(tree.List(last, b))
				same(t, d, a, last, b, want)
				seen[fmt.Sprint("same ", want)]++
			}
		}
		last = d
	}
	for _, what := range []string{"deep 1", "deep 2", "deep 3", "deep 4", "deep 5", "same true", "same false"} {
		if seen[what] < 10 {
			t.Errorf("too few of %s: %v", what, seen)
		}
	}
}
