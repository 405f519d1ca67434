package disk_test

import (
	"fmt"
	"math"
	"slices"
	"strings"
	"testing"

	"flagstone/api"
	"flagstone/disk"
	"flagstone/entry"
)

// turn is a change of a disk, and what it is.
type turn struct {
	what string
	do   func(d *disk.Disk)
}

// of tells how a disk is after each turn of l.
func of(t *testing.T, l []turn, want bool) {
	t.Helper()
	for _, x := range l {
		d := rich()
		if !disk.Right(d) {
			t.Fatal("the disk that is to be changed is not right")
		}
		x.do(&d)
		keeps(t, d, "Right", func() {
			if disk.Right(d) != want {
				t.Errorf("Right = %v: %s", !want, x.what)
			}
		})
		if byWords(d) != want {
			t.Errorf("by the chapter's words not %v: %s", want, x.what)
		}
	}
}

// byWords tells whether d is right by another way: all that has to hold, word
// by word, and each directory that is named found from the root down.
func byWords(d disk.Disk) bool {
	if len(d.Nodes) == 0 || d.Nodes[0].Kind != disk.Dir || d.Nodes[0].Up != 0 || len(d.Nodes) > d.Most {
		return false
	}
	bytes := 0
	namers := map[int][]int{0: {-1}}
	for i, n := range d.Nodes {
		if n.Kind == disk.Free && told(n) != told(disk.Node{}) {
			return false
		}
		if n.Kind < 0 || n.Kind > 3 || n.Mode < 0 || n.Mode > 63 || n.Open < 0 || n.Kind != disk.Dir && len(n.Names) != 0 || n.Kind == disk.Dir && n.Data != "" {
			return false
		}
		bytes += len(n.Data)
		for at, e := range n.Names {
			if entry.Legal(e.Name) != api.OK || at > 0 && strings.Compare(n.Names[at-1].Name, e.Name) >= 0 {
				return false
			}
			if e.Ino <= 0 || e.Ino >= len(d.Nodes) || d.Nodes[e.Ino].Kind == disk.Free {
				return false
			}
			namers[e.Ino] = append(namers[e.Ino], i)
		}
	}
	below := map[int]bool{}
	var down func(i int)
	down = func(i int) {
		if !below[i] {
			below[i] = true
			for _, e := range d.Nodes[i].Names {
				down(e.Ino)
			}
		}
	}
	down(0)
	for i, n := range d.Nodes {
		if n.Kind == disk.Free {
			continue
		}
		if n.Links != len(namers[i]) || n.Links == 0 && n.Open == 0 {
			return false
		}
		if n.Kind != disk.Dir || i == 0 {
			continue
		}
		if len(namers[i]) == 0 && (len(n.Names) != 0 || n.Up != 0) {
			return false
		}
		if len(namers[i]) > 0 && (len(namers[i]) > 1 || n.Up != namers[i][0] || !below[i]) {
			return false
		}
	}
	return bytes <= d.Room
}

// P6.3
func TestRightTakesWhatIsRight(t *testing.T) {
	var free disk.Disk
	of(t, []turn{
		{"as it is", func(d *disk.Disk) {}},
		{"the nodes are Most", func(d *disk.Disk) { d.Most = 10 }},
		{"Most is above the greatest of New", func(d *disk.Disk) { d.Most = math.MaxInt }},
		{"Bytes is Room", func(d *disk.Disk) { d.Room = 12 }},
		{"Room is above the greatest of New", func(d *disk.Disk) { d.Room = math.MaxInt }},
		{"all modes of the root", func(d *disk.Disk) { d.Nodes[0].Mode = 63 }},
		{"no mode of the root", func(d *disk.Disk) { d.Nodes[0].Mode = 0 }},
		{"any owner", func(d *disk.Disk) {
			d.Nodes[0].Owner, d.Nodes[2].Owner, d.Nodes[4].Owner = -5, math.MinInt, math.MaxInt
		}},
		{"much open", func(d *disk.Disk) { d.Nodes[0].Open, d.Nodes[2].Open, d.Nodes[5].Open = math.MaxInt, 1000, 99 }},
		{"nothing of what is named open", func(d *disk.Disk) { d.Nodes[0].Open, d.Nodes[2].Open = 0, 0 }},
		{"no data of files and links", func(d *disk.Disk) { d.Nodes[2].Data, d.Nodes[7].Data = "", "" }},
		{"any data of files and links", func(d *disk.Disk) { d.Nodes[2].Data, d.Nodes[7].Data = "\x00//\xff", "..\x00" }},
		{"of others than directories nothing is asked of Up", func(d *disk.Disk) { d.Nodes[2].Up, d.Nodes[7].Up, d.Nodes[8].Up, d.Nodes[9].Up = 1, -1, 99, 3 }},
		{"a list without elements is no names", func(d *disk.Disk) { d.Nodes[2].Names, d.Nodes[3].Names, d.Nodes[5].Names = names{}, names{}, names{} }},
		{"a link that is named twice", func(d *disk.Disk) {
			d.Nodes[0].Names = append(d.Nodes[0].Names, entry.Entry{Name: "x", Ino: 7})
			d.Nodes[7].Links = 2
		}},
		{"an open file that is named again", func(d *disk.Disk) {
			d.Nodes[4].Names = append(d.Nodes[4].Names, entry.Entry{Name: "m", Ino: 8})
			d.Nodes[8].Links = 1
		}},
		{"an open directory that is named again", func(d *disk.Disk) {
			d.Nodes[4].Names = append(d.Nodes[4].Names, entry.Entry{Name: "m", Ino: 5})
			d.Nodes[5].Links, d.Nodes[5].Up = 1, 4
		}},
		lower(0),
		{"a directory moved", func(d *disk.Disk) {
			d.Nodes[1].Names = d.Nodes[1].Names[1:]
			d.Nodes[0].Names = append(d.Nodes[0].Names, entry.Entry{Name: "x", Ino: 4})
			d.Nodes[4].Up = 0
		}},
		{"names of as many bytes as there may be", func(d *disk.Disk) { d.Nodes[4].Names[0].Name = "............" }},
		{"free nodes at the end", func(d *disk.Disk) { d.Nodes = append(d.Nodes, disk.Node{}, disk.Node{}) }},
		{"no other node than the root", func(d *disk.Disk) { d.Nodes = nodes{{Kind: disk.Dir, Links: 1}} }},
		{"free nodes but the root", func(d *disk.Disk) { d.Nodes = nodes{{Kind: disk.Dir, Links: 1}, {}, {}} }},
	}, true)
	if disk.Right(free) {
		t.Error("the zero disk is right")
	}
}

// P6.3: of the disk, and of its root.
func TestRightRefusesWrongDisks(t *testing.T) {
	of(t, []turn{
		{"no nodes", func(d *disk.Disk) { d.Nodes = nil }},
		{"nodes without elements", func(d *disk.Disk) { d.Nodes = nodes{} }},
		{"more nodes than Most", func(d *disk.Disk) { d.Most = 9 }},
		{"more nodes than Most by a free one", func(d *disk.Disk) { d.Nodes = append(d.Nodes, disk.Node{}, disk.Node{}, disk.Node{}) }},
		{"Most 0", func(d *disk.Disk) { d.Most = 0 }},
		{"Most below 0", func(d *disk.Disk) { d.Most = math.MinInt }},
		{"Bytes above Room", func(d *disk.Disk) { d.Room = 11 }},
		{"Room below 0", func(d *disk.Disk) { d.Room = math.MinInt }},
		{"Room below 0 and no bytes", func(d *disk.Disk) { *d = disk.New(3, 3, 63); d.Room = -1 }},
		{"data of a file above Room", func(d *disk.Disk) { d.Nodes[8].Data = "0123456789a" }},
		{"data of a link above Room", func(d *disk.Disk) { d.Nodes[9].Data = "0123456789a" }},
		{"a root that is a file", func(d *disk.Disk) { d.Nodes = nodes{{Kind: disk.File, Links: 1}} }},
		{"a root that is a link", func(d *disk.Disk) { d.Nodes = nodes{{Kind: disk.Link, Links: 1}} }},
		{"a root that is free", func(d *disk.Disk) { d.Nodes = nodes{{}} }},
		{"a root of no kind", func(d *disk.Disk) { d.Nodes[0].Kind = 4 }},
		{"a root that is up to another one", func(d *disk.Disk) { d.Nodes[0].Up = 1 }},
		{"a root that is up to nothing", func(d *disk.Disk) { d.Nodes[0].Up = -1 }},
		{"a root of no link", func(d *disk.Disk) { d.Nodes[0].Links = 0 }},
		{"a root of two links", func(d *disk.Disk) { d.Nodes[0].Links = 2 }},
		{"a root of data", func(d *disk.Disk) { d.Nodes[0].Data = "x" }},
		{"a root that is open below 0", func(d *disk.Disk) { d.Nodes[0].Open = -1 }},
		{"a root of a mode below 0", func(d *disk.Disk) { d.Nodes[0].Mode = -1 }},
		{"a root of a mode above 63", func(d *disk.Disk) { d.Nodes[0].Mode = 64 }},
	}, false)
}

// P6.3
func TestRightRefusesFreeNodesThatAreNotZero(t *testing.T) {
	of(t, []turn{
		{"a mode", func(d *disk.Disk) { d.Nodes[3].Mode = 1 }},
		{"an owner", func(d *disk.Disk) { d.Nodes[3].Owner = -1 }},
		{"a link", func(d *disk.Disk) { d.Nodes[3].Links = 1 }},
		{"open", func(d *disk.Disk) { d.Nodes[3].Open = 1 }},
		{"up", func(d *disk.Disk) { d.Nodes[3].Up = 1 }},
		{"data", func(d *disk.Disk) { d.Nodes[3].Data = "\x00" }},
		{"names", func(d *disk.Disk) { d.Nodes[3].Names = names{{Name: "q", Ino: 2}}; d.Nodes[2].Links = 4 }},
		{"the last one", func(d *disk.Disk) { d.Nodes = append(d.Nodes, disk.Node{}, disk.Node{Mode: 1}) }},
	}, false)
}

// P6.3: each node's numbers.
func TestRightRefusesNumbersThatMayNotBe(t *testing.T) {
	for _, i := range []int{1, 2, 4, 5, 6, 7, 8, 9} {
		of(t, []turn{
			{fmt.Sprint("a kind above 3 of ", i), func(d *disk.Disk) { d.Nodes[i].Kind = 4 }},
			{fmt.Sprint("a kind below 0 of ", i), func(d *disk.Disk) { d.Nodes[i].Kind = -1 }},
			{fmt.Sprint("a kind far below 0 of ", i), func(d *disk.Disk) { d.Nodes[i].Kind = math.MinInt }},
			{fmt.Sprint("no kind of ", i), func(d *disk.Disk) { d.Nodes[i].Kind = disk.Free }},
			{fmt.Sprint("a mode above 63 of ", i), func(d *disk.Disk) { d.Nodes[i].Mode = 64 }},
			{fmt.Sprint("a mode below 0 of ", i), func(d *disk.Disk) { d.Nodes[i].Mode = -1 }},
			{fmt.Sprint("a mode far above 63 of ", i), func(d *disk.Disk) { d.Nodes[i].Mode = math.MaxInt }},
			{fmt.Sprint("open below 0 of ", i), func(d *disk.Disk) { d.Nodes[i].Open = -1 }},
			{fmt.Sprint("a link more of ", i), func(d *disk.Disk) { d.Nodes[i].Links++ }},
			{fmt.Sprint("a link less of ", i), func(d *disk.Disk) { d.Nodes[i].Links-- }},
		}, false)
	}
	for _, i := range []int{5, 8, 9} {
		of(t, []turn{{fmt.Sprint("neither links nor open of ", i), func(d *disk.Disk) { d.Nodes[i].Open = 0 }}}, false)
	}
	for _, i := range []int{1, 4, 5} {
		of(t, []turn{{fmt.Sprint("data of the directory ", i), func(d *disk.Disk) { d.Nodes[i].Data = "x" }}}, false)
	}
}

// P6.3
func TestRightRefusesNamesThatMayNotBe(t *testing.T) {
	name := func(s string) turn {
		return turn{fmt.Sprintf("the name %q", s), func(d *disk.Disk) { d.Nodes[4].Names[0].Name = s }}
	}
	of(t, []turn{name(""), name("."), name(".."), name("a/b"), name("/"), name("a\x00"), name("abcdefghijklm")}, false)
	node := func(i int) turn {
		return turn{fmt.Sprintf("a name of node %d", i), func(d *disk.Disk) { d.Nodes[4].Names = append(d.Nodes[4].Names, entry.Entry{Name: "m", Ino: i}) }}
	}
	of(t, []turn{node(-1), node(3), node(10), node(11), node(1 << 32), node(math.MinInt), node(math.MaxInt)}, false)
	of(t, []turn{
		{"names that are not in order", func(d *disk.Disk) { d.Nodes[0].Names[1].Name = "h" }},
		{"two names that are alike", func(d *disk.Disk) { d.Nodes[0].Names[1].Name = "g" }},
		{"a name of the root", func(d *disk.Disk) { d.Nodes[4].Names = append(d.Nodes[4].Names, entry.Entry{Name: "m"}) }},
		{"a name of the root that is counted", func(d *disk.Disk) {
			d.Nodes[4].Names = append(d.Nodes[4].Names, entry.Entry{Name: "m"})
			d.Nodes[0].Links = 2
		}},
		{"a name of the root in the root", func(d *disk.Disk) {
			*d = disk.Disk{Most: 1, Nodes: nodes{{Kind: disk.Dir, Links: 2, Names: names{{Name: "a", Ino: 0}}}}}
		}},
		{"a name of a free node that is counted", func(d *disk.Disk) {
			d.Nodes[4].Names = append(d.Nodes[4].Names, entry.Entry{Name: "m", Ino: 3})
			d.Nodes[3].Links = 1
		}},
		{"names of a file", func(d *disk.Disk) { d.Nodes[6].Names = names{{Name: "a", Ino: 2}}; d.Nodes[2].Links = 4 }},
		{"names of a link", func(d *disk.Disk) { d.Nodes[7].Names = names{{Name: "a", Ino: 2}}; d.Nodes[2].Links = 4 }},
		{"names of an open file", func(d *disk.Disk) { d.Nodes[8].Names = names{{Name: "a", Ino: 2}}; d.Nodes[2].Links = 4 }},
		{"a name that is gone", func(d *disk.Disk) { d.Nodes[4].Names = nil }},
		{"a name that names another node", func(d *disk.Disk) { d.Nodes[0].Names[1].Ino = 6 }},
	}, false)
}

// P6.3: where directories stand.
func TestRightRefusesDirectoriesThatStandWrong(t *testing.T) {
	twice := func(i, up int) turn {
		return turn{fmt.Sprintf("the directory %d named by %d, too", i, up), func(d *disk.Disk) {
			l := d.Nodes[up].Names
			d.Nodes[up].Names = append(slices.Clone(l), entry.Entry{Name: "z", Ino: i})
			d.Nodes[i].Links++
		}}
	}
	for i := range 3 {
		for _, up := range []int{0, 1, 4} {
			of(t, []turn{twice([]int{1, 4, 0}[i], up)}, false)
		}
	}
	up := func(i, at int) turn {
		return turn{fmt.Sprintf("the directory %d up to %d", i, at), func(d *disk.Disk) { d.Nodes[i].Up = at }}
	}
	for _, at := range append(slices.Clone(nowhere), 2, 3, 4, 5, 6, 7, 8, 9, 10) {
		of(t, []turn{up(0, at), up(1, at), up(4, at)}, false)
		of(t, []turn{up(5, at)}, false) // without a name
	}
	of(t, []turn{
		up(0, 1), up(1, 1), up(4, 0), up(5, 1),
		{"a directory without a name that has names", func(d *disk.Disk) { d.Nodes[5].Names = names{{Name: "a", Ino: 2}}; d.Nodes[2].Links = 4 }},
		{"a directory without a name that has a directory", func(d *disk.Disk) {
			d.Nodes[1].Names = d.Nodes[1].Names[1:]
			d.Nodes[5].Names = names{{Name: "b", Ino: 4}}
			d.Nodes[4].Up = 5
		}},
		{"a directory that is named, and counted, but up to nothing", func(d *disk.Disk) {
			d.Nodes[4].Names = append(d.Nodes[4].Names, entry.Entry{Name: "m", Ino: 5})
			d.Nodes[5].Links = 1
		}},
		lower(99), lower(-1), lower(10), lower(11), lower(2), lower(3), lower(5),
		{"a directory that names itself", func(d *disk.Disk) { d.Nodes[5] = ring(5, 5) }},
		{"two that name each other", func(d *disk.Disk) { d.Nodes = append(d.Nodes, ring(11, 11), ring(10, 10)) }},
		{"one beneath a ring", func(d *disk.Disk) {
			d.Nodes = append(d.Nodes, ring(10, 10), disk.Node{Kind: disk.Dir, Links: 1, Up: 10})
			d.Nodes[10].Names = append(d.Nodes[10].Names, entry.Entry{Name: "s", Ino: 11})
		}},
	}, false)
}

// lower puts the directory 5 into a new one, of a greater number, in the root, that is up to at.
func lower(at int) turn {
	return turn{fmt.Sprintf("what has a directory of a lower number up to %d", at), func(d *disk.Disk) {
		d.Nodes[5] = disk.Node{Kind: disk.Dir, Links: 1, Up: 10}
		d.Nodes = append(d.Nodes, disk.Node{Kind: disk.Dir, Links: 1, Up: at, Names: names{{Name: "m", Ino: 5}}})
		d.Nodes[0].Names = append(d.Nodes[0].Names, entry.Entry{Name: "z", Ino: 10})
	}}
}

// ring tells a directory that has a name of one node, and is named by another one.
func ring(of, up int) disk.Node {
	return disk.Node{Kind: disk.Dir, Mode: 63, Links: 1, Up: up, Names: names{{Name: "r", Ino: of}}}
}

// P6.3: ways up of each length, and rings of each.
func TestRightOfLongWays(t *testing.T) {
	for n := 1; n <= 100; n++ {
		d := disk.Disk{Most: n, Nodes: nodes{{Kind: disk.Dir, Links: 1}}}
		for i := 1; i < n; i++ {
			d.Nodes[i-1].Names = names{{Name: "d", Ino: i}}
			d.Nodes = append(d.Nodes, disk.Node{Kind: disk.Dir, Links: 1, Up: i - 1})
		}
		if !disk.Right(d) {
			t.Errorf("a way of %d directories is not right", n)
		}
		back := disk.Disk{Most: n, Nodes: nodes{d.Nodes[0]}} // the deepest one is node 1
		for i := 1; i < n; i++ {
			back.Nodes = append(back.Nodes, disk.Node{Kind: disk.Dir, Links: 1, Up: (i + 1) % n})
			if i > 1 {
				back.Nodes[i].Names = names{{Name: "d", Ino: i - 1}}
			}
		}
		if n > 1 {
			back.Nodes[0].Names = names{{Name: "d", Ino: n - 1}}
		}
		if !disk.Right(back) {
			t.Errorf("a way of %d directories, the deepest one ahead, is not right", n)
		}
		if n < 2 {
			continue
		}
		d.Nodes[0].Names, d.Nodes[1].Up = nil, n-1 // all but the root in a ring
		d.Nodes[n-1].Names = names{{Name: "d", Ino: 1}}
		if disk.Right(d) {
			t.Errorf("a ring of %d directories is right", n-1)
		}
	}
}

// P6.3: of each disk of a root and two nodes, of some names and ups.
func TestRightOfEachSmallDisk(t *testing.T) {
	lists := []names{nil, {{Name: "a", Ino: 0}}, {{Name: "a", Ino: 1}}, {{Name: "a", Ino: 2}}, {{Name: "a", Ino: 1}, {Name: "b", Ino: 2}}, {{Name: "a", Ino: 2}, {Name: "b", Ino: 2}}, {{Name: "a", Ino: 3}}, {{Name: "b", Ino: 1}, {Name: "a", Ino: 1}}}
	right := 0
	for n := range 8 * 8 * 8 * 4 * 4 * 3 * 3 * 2 * 2 {
		part := func(of int) int {
			x := n % of
			n /= of
			return x
		}
		d := disk.Disk{Most: 3, Nodes: nodes{{Kind: disk.Dir, Names: lists[part(8)]}, {Kind: part(4), Names: lists[part(8)], Up: part(3), Open: part(2)}, {Kind: part(4), Names: lists[part(8)], Up: part(3), Open: part(2)}}}
		d.Nodes[0].Links = 1
		for _, x := range d.Nodes {
			for _, e := range x.Names {
				if e.Ino < 3 {
					d.Nodes[e.Ino].Links++
				}
			}
		}
		got := disk.Right(d)
		if got {
			right++
		}
		if got != byWords(d) {
			t.Fatalf("Right(%+v) = %v", d, got)
		}
	}
	if right < 100 {
		t.Errorf("of all small disks %d are right", right)
	}
}

// P6.3: of disks that are right but for a number or two.
func TestRightOfDisksThatAreNearlyRight(t *testing.T) {
	draw := drawing(3)
	seen := map[bool]int{}
	for range 100000 {
		d := rich()
		for range 1 + draw(2) {
			n := &d.Nodes[draw(len(d.Nodes))]
			fields := []*int{&n.Kind, &n.Mode, &n.Owner, &n.Links, &n.Open, &n.Up, &d.Most, &d.Room}
			if len(n.Names) > 0 {
				fields = append(fields, &n.Names[draw(len(n.Names))].Ino)
			}
			*fields[draw(len(fields))] = []int{-1, 0, 1, 2, 3, 4, 5, 6, 7, 8, 9, 10, 11, 12, 63, 64}[draw(16)]
		}
		got := disk.Right(d)
		seen[got]++
		if got != byWords(d) {
			t.Fatalf("Right(%+v) = %v", d, got)
		}
	}
	if seen[true] < 1000 || seen[false] < 1000 {
		t.Error(seen)
	}
}

// P6.4
func TestANewDiskIsRight(t *testing.T) {
	for most := 1; most <= 100; most++ {
		for _, room := range []int{0, 1, 500, 1000} {
			for mode := range 64 {
				if d := disk.New(most, room, mode); !disk.Right(d) || disk.Used(d) != 1 || disk.Bytes(d) != 0 {
					t.Errorf("New(%d, %d, %d) = %+v is not right", most, room, mode, d)
				}
			}
		}
	}
	if disk.Right(disk.New(0, 0, 0)) {
		t.Error("a disk of no nodes is right")
	}
}

// P6.4: a disk on which names come and go, and nodes are opened and closed,
// by these calls, stays right, if each node is settled whenever it lost a
// name or was closed; and it is free then just if it has neither.
func TestWhatIsSettledIsFreeJustIfNobodyHasIt(t *testing.T) {
	draw := drawing(11)
	freed := 0
	for range 100 {
		d := disk.New(1+draw(8), draw(9), 63)
		for range 120 {
			d = step(t, d, draw, &freed)
			if !disk.Right(d) || !byWords(d) {
				t.Fatalf("not right: %+v", d)
			}
		}
	}
	if freed < 100 {
		t.Errorf("of all that came only %d are gone", freed)
	}
}

// step does one thing to d that leaves it right: it makes, names again, drops, opens, or closes.
func step(t *testing.T, d disk.Disk, draw func(int) int, freed *int) disk.Disk {
	t.Helper()
	at := draw(len(d.Nodes))
	up, is := disk.Get(d, at)
	if !is || up.Kind != disk.Dir || up.Links == 0 {
		at = 0
		up, _ = disk.Get(d, 0)
	}
	name := string(rune('a' + draw(4)))
	ino, there := entry.Find(up.Names, name)
	i := draw(len(d.Nodes))
	n, is := disk.Get(d, i)
	switch what := draw(6); {
	case what < 2 && !there:
		kind := 1 + draw(3)
		made := disk.Node{Kind: kind, Mode: draw(64), Links: 1}
		if kind == disk.Dir {
			made.Up = at
		} else {
			made.Data = strings.Repeat("x", draw(4))
		}
		e, i, err := disk.Add(d, made)
		if err != api.OK {
			same(t, e, d, "Add with an error")
			return e
		}
		up.Names = entry.Put(up.Names, entry.Entry{Name: name, Ino: i})
		return disk.Set(e, at, up)
	case what == 2 && !there && is && n.Kind != disk.Dir:
		n.Links++
		up.Names = entry.Put(up.Names, entry.Entry{Name: name, Ino: i})
		return disk.Set(disk.Set(d, i, n), at, up)
	case what == 3 && there:
		lost, _ := disk.Get(d, ino)
		if len(lost.Names) > 0 {
			return d
		}
		lost.Links--
		if lost.Kind == disk.Dir {
			lost.Up = 0
		}
		up.Names = entry.Drop(up.Names, name)
		return settle(t, disk.Set(disk.Set(d, at, up), ino, lost), ino, freed)
	case what == 4 && is:
		n.Open++
		return disk.Set(d, i, n)
	case what == 5 && is && n.Open > 0:
		n.Open--
		return settle(t, disk.Set(d, i, n), i, freed)
	}
	return d
}

// settle settles node i, of which it looks who has it.
func settle(t *testing.T, d disk.Disk, i int, freed *int) disk.Disk {
	t.Helper()
	named := i == 0
	for _, n := range d.Nodes {
		for _, e := range n.Names {
			named = named || e.Ino == i
		}
	}
	before, _ := disk.Get(d, i)
	got := disk.Settle(d, i)
	n, is := disk.Get(got, i)
	if is != (named || before.Open > 0) {
		t.Fatalf("Settle(%+v, %d) leaves %v", d, i, is)
	}
	if is {
		same(t, n, before, "what Settle left of what somebody has")
	} else {
		*freed++
	}
	return got
}
