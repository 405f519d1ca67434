package disk_test

import (
	"fmt"
	"math"
	"slices"
	"strings"
	"testing"

	"flagstone/api"
	"flagstone/disk"
	"flagstone/entry"
)

// The kinds are constants without a type, so that they can be held against any number.
const (
	_ int8    = disk.Free
	_ uint64  = disk.File
	_ float64 = disk.Dir
	_ int     = disk.Link
)

type (
	nodes = []disk.Node
	names = []entry.Entry
)

// Numbers of nodes that no disk has.
var nowhere = []int{-1, -2, -100, 100000, 1 << 32, math.MinInt, math.MaxInt}

// rich tells a right disk that has nodes of all kinds: directories in each
// other (0, 1, 4), a file of one name (6), one of three (2), a link (7), and
// nodes without names that are open (5, 8, 9); 3 is free.
func rich() disk.Disk {
	return disk.Disk{Most: 12, Room: 20, Nodes: nodes{
		0: {Kind: disk.Dir, Mode: 61, Links: 1, Open: 2, Names: names{{Name: "a", Ino: 1}, {Name: "f", Ino: 2}, {Name: "g", Ino: 2}}},
		1: {Kind: disk.Dir, Mode: 63, Owner: 3, Links: 1, Names: names{{Name: "b", Ino: 4}, {Name: "f", Ino: 2}, {Name: "h", Ino: 6}}},
		2: {Kind: disk.File, Mode: 52, Owner: 3, Links: 3, Open: 1, Data: "xyz"},
		3: {},
		4: {Kind: disk.Dir, Mode: 0, Owner: 5, Links: 1, Up: 1, Names: names{{Name: "l", Ino: 7}}},
		5: {Kind: disk.Dir, Mode: 7, Owner: 5, Open: 1},
		6: {Kind: disk.File, Mode: 48, Links: 1},
		7: {Kind: disk.Link, Mode: 63, Owner: 1, Links: 1, Data: "/a/é"},
		8: {Kind: disk.File, Mode: 9, Owner: 4, Open: 3, Data: "\x00\xff"},
		9: {Kind: disk.Link, Mode: 63, Open: 1, Data: ".."},
	}}
}

// odd tells a disk that is right in nothing: more nodes than Most, kinds that
// there are not, free nodes that are not zero.
func odd() disk.Disk {
	return disk.Disk{Most: -4, Room: -7, Nodes: nodes{
		{Kind: disk.File, Data: "abc", Up: 77, Names: names{{Name: "/", Ino: -1}, {Name: "", Ino: 99}}},
		{Kind: disk.Free, Mode: 7, Links: 2, Data: "gone", Names: names{{Name: "a", Ino: 0}}},
		{Kind: 4, Data: "four", Owner: -1},
		{Kind: -1, Data: "below", Open: -9},
		{Kind: disk.Dir, Data: "dir", Names: names{{Name: "b", Ino: 4}, {Name: "a", Ino: 4}}},
		{Kind: disk.Link, Data: "éé", Links: -3},
		{Kind: math.MaxInt, Data: "most"},
		{Kind: math.MinInt, Data: "least"},
	}}
}

// copied tells d with memory of its own.
func copied(d disk.Disk) disk.Disk {
	d.Nodes = slices.Clone(d.Nodes)
	for i := range d.Nodes {
		d.Nodes[i].Names = slices.Clone(d.Nodes[i].Names)
	}
	return d
}

// told tells all that there is to be seen of a node, a disk, or names; lists
// without elements are alike, whether nil or not.
func told(x any) string {
	switch x := x.(type) {
	case disk.Disk:
		out := fmt.Sprint(x.Most, x.Room)
		for _, n := range x.Nodes {
			out += "\n" + told(n)
		}
		return out
	case disk.Node:
		return fmt.Sprintf("%d %d %d %d %d %d %q %s", x.Kind, x.Mode, x.Owner, x.Links, x.Open, x.Up, x.Data, told(x.Names))
	case names:
		return fmt.Sprintf("%#v", append(names{}, x...))
	}
	panic(x)
}

func same(t *testing.T, got, want any, call string, args ...any) {
	t.Helper()
	if told(got) != told(want) {
		t.Errorf(call+" = %+v, want %+v", append(args, got, want)...)
	}
}

// keeps tells whether what is done leaves d as it was.
func keeps(t *testing.T, d disk.Disk, call string, do func()) {
	t.Helper()
	before := copied(d)
	do()
	same(t, d, before, "what "+call+" left of the disk that was handed in")
}

func adds(t *testing.T, d disk.Disk, n disk.Node, want disk.Disk, i int, e api.Errno) {
	t.Helper()
	keeps(t, d, "Add", func() {
		got, at, err := disk.Add(d, n)
		if at != i || err != e {
			t.Errorf("Add(%+v, %+v) tells %d, %d; want %d, %d", d, n, at, err, i, e)
		}
		same(t, got, want, "Add(%+v, %+v)", d, n)
	})
}

func refuses(t *testing.T, d disk.Disk, n disk.Node) {
	t.Helper()
	adds(t, d, n, copied(d), 0, api.ErrSpace)
}

// with tells d with n as node i, or behind all.
func with(d disk.Disk, i int, n disk.Node) disk.Disk {
	d = copied(d)
	if i == len(d.Nodes) {
		d.Nodes = append(d.Nodes, disk.Node{})
	}
	d.Nodes[i] = n
	return d
}

func settles(t *testing.T, d disk.Disk, i int, want disk.Disk) {
	t.Helper()
	keeps(t, d, "Settle", func() {
		same(t, disk.Settle(d, i), want, "Settle(%+v, %d)", d, i)
	})
}

// P6.1
func TestKinds(t *testing.T) {
	if disk.Free != 0 || disk.File != 1 || disk.Dir != 2 || disk.Link != 3 {
		t.Error(disk.Free, disk.File, disk.Dir, disk.Link)
	}
}

// P6.1
func TestNewTellsADiskOfTheRoot(t *testing.T) {
	if disk.Used(disk.New(9, 9, 63)) != 1 { // the chapter's example
		t.Error(disk.New(9, 9, 63))
	}
	for most := 1; most <= 100; most++ {
		for _, room := range []int{0, 1, 2, 100, 999, 1000} {
			for mode := range 64 {
				want := disk.Disk{Most: most, Room: room, Nodes: nodes{{Kind: disk.Dir, Mode: mode, Links: 1}}}
				same(t, disk.New(most, room, mode), want, "New(%d, %d, %d)", most, room, mode)
			}
		}
	}
	for room := range 1001 {
		if d := disk.New(50, room, 56); len(d.Nodes) != 1 || d.Room != room {
			t.Errorf("New(50, %d, 56) = %+v", room, d)
		}
	}
}

// P6.1
func TestNewRefusesWhatIsOutOfItsLimits(t *testing.T) {
	if api.MaxNodes != 100 || api.MaxRoom != 1000 {
		t.Fatal(api.MaxNodes, api.MaxRoom)
	}
	far := []int{-2, -100, 1 << 32, 1<<32 + 5, math.MinInt, math.MaxInt}
	zero := func(most, room, mode int) {
		t.Helper()
		if d := disk.New(most, room, mode); d.Nodes != nil || d.Most != 0 || d.Room != 0 {
			t.Errorf("New(%d, %d, %d) = %+v", most, room, mode, d)
		}
	}
	for _, most := range append(far, -1, 0, 101, 1000) {
		zero(most, 5, 63)
		zero(most, -1, 64)
	}
	for _, room := range append(far, -1, 1001, 1002) {
		zero(9, room, 63)
		zero(0, room, 63)
	}
	for _, mode := range append(far, -1, 64, 65, 127, 511) {
		zero(9, 5, mode)
		zero(9, 1001, mode)
	}
}

// P6.1
func TestGetTellsNodesThatAreNotFree(t *testing.T) {
	for _, d := range []disk.Disk{rich(), odd(), disk.New(1, 0, 0), {}} {
		for i, want := range d.Nodes {
			if want.Kind == disk.Free { // also where it is not zero
				want = disk.Node{}
			}
			got, is := disk.Get(d, i)
			if is != (want.Kind != disk.Free) {
				t.Errorf("Get(%+v, %d) tells %v", d, i, is)
			}
			same(t, got, want, "Get(%+v, %d)", d, i)
		}
		for _, i := range append(nowhere, len(d.Nodes), len(d.Nodes)+1) {
			got, is := disk.Get(d, i)
			if is {
				t.Errorf("Get(%+v, %d) tells true", d, i)
			}
			same(t, got, disk.Node{}, "Get(%+v, %d)", d, i)
		}
	}
}

// P6.1
func TestUsedCountsNodesThatAreNotFree(t *testing.T) {
	for _, c := range []struct {
		d    disk.Disk
		want int
	}{
		{disk.Disk{}, 0},
		{disk.New(9, 9, 63), 1},
		{rich(), 9},
		{odd(), 7}, // kinds that there are not are not free, either
		{disk.Disk{Nodes: nodes{{}, {}, {}}}, 0},
		{disk.Disk{Nodes: nodes{{Mode: 1, Links: 1, Open: 1, Data: "x", Names: names{{Name: "a", Ino: 0}}}}}, 0}, // it is the kind that counts
		{disk.Disk{Nodes: nodes{{}, {Kind: disk.Link}, {}, {Kind: disk.File}, {}}}, 2},
		{disk.Disk{Nodes: make(nodes, 100)}, 0},
		{disk.Disk{Nodes: slices.Repeat(nodes{{Kind: disk.Dir}}, 100)}, 100},
	} {
		if got := disk.Used(c.d); got != c.want {
			t.Errorf("Used(%+v) = %d, want %d", c.d, got, c.want)
		}
	}
}

// P6.1
func TestBytesCountsDataOfFilesAndLinks(t *testing.T) {
	one := func(kind int, data string) disk.Disk { return disk.Disk{Nodes: nodes{{Kind: kind, Data: data}}} }
	for _, c := range []struct {
		d    disk.Disk
		want int
	}{
		{disk.Disk{}, 0},
		{disk.New(9, 9, 63), 0},
		{rich(), 3 + 5 + 2 + 2},
		{odd(), 3 + 4}, // neither of free nodes, nor of directories, nor of what has no kind
		{one(disk.File, ""), 0},
		{one(disk.File, "abc"), 3},
		{one(disk.Link, "abc"), 3},
		{one(disk.File, "é\x00\xff"), 4}, // bytes, not signs
		{one(disk.Link, "éé"), 4},
		{one(disk.Dir, "abc"), 0},
		{one(disk.Free, "abc"), 0},
		{one(4, "abc"), 0},
		{one(-1, "abc"), 0},
		{one(disk.File, strings.Repeat("x", 1500)), 1500}, // more than any room
		{disk.Disk{Nodes: slices.Repeat(nodes{{Kind: disk.File, Data: "ab"}, {Kind: disk.Link, Data: "c"}, {}}, 33)}, 99},
	} {
		if got := disk.Bytes(c.d); got != c.want {
			t.Errorf("Bytes(%+v) = %d, want %d", c.d, got, c.want)
		}
	}
}

// Nodes of all sorts, also such as are right in no disk.
func allSorts() nodes {
	return nodes{
		{},
		{Kind: disk.File},
		{Kind: disk.File, Mode: 63, Owner: 7, Links: 2, Open: 5, Up: 1, Data: "hey"},
		{Kind: disk.Dir, Mode: 56, Owner: 1, Links: 1, Open: 1, Up: 4, Names: names{{Name: "a", Ino: 1}, {Name: "b", Ino: 2}}},
		{Kind: disk.Link, Mode: 63, Links: 1, Data: "../x"},
		{Kind: 4, Mode: -1, Owner: -2, Links: -3, Open: -4, Up: -5, Data: "\x00", Names: names{{Name: "z", Ino: -1}, {Name: "", Ino: math.MaxInt}}},
		{Kind: math.MinInt, Mode: math.MaxInt, Owner: math.MinInt, Links: math.MaxInt, Open: math.MinInt, Up: math.MaxInt},
		{Kind: disk.Free, Mode: 1, Data: "not zero", Names: names{{Name: "a", Ino: 0}}},
	}
}

// P6.2
func TestSetTellsTheDiskWithANodeSet(t *testing.T) {
	for _, d := range []disk.Disk{rich(), odd(), disk.New(1, 0, 0), {}} {
		for _, n := range allSorts() {
			for i := range d.Nodes { // free or not; of Most and Room nothing is asked
				keeps(t, d, "Set", func() {
					same(t, disk.Set(d, i, n), with(d, i, n), "Set(%+v, %d, %+v)", d, i, n)
				})
			}
			for _, i := range append(nowhere, len(d.Nodes), len(d.Nodes)+1) {
				keeps(t, d, "Set", func() {
					same(t, disk.Set(d, i, n), copied(d), "Set(%+v, %d, %+v)", d, i, n)
				})
			}
		}
	}
}

// P6.2
func TestAddTakesTheFirstFreeNode(t *testing.T) {
	n := disk.Node{Kind: disk.Link, Mode: 63, Owner: 2, Links: 1, Data: "../x"}
	adds(t, rich(), n, with(rich(), 3, n), 3, api.OK)
	adds(t, disk.New(2, 4, 63), n, with(disk.New(2, 4, 63), 1, n), 1, api.OK)
	used := disk.Node{Kind: disk.File}
	for set := range 1 << 5 { // each row of five nodes, free or not
		d := disk.Disk{Most: 6, Room: 4, Nodes: make(nodes, 5)}
		first := 5
		for i := 4; i >= 0; i-- {
			if set&(1<<i) != 0 {
				d.Nodes[i] = used
			} else {
				first = i
			}
		}
		adds(t, d, n, with(d, first, n), first, api.OK)
	}
	notZero := disk.Disk{Most: 3, Room: 9, Nodes: nodes{used, {Mode: 7, Links: 2, Data: "gone", Names: names{{Name: "a", Ino: 0}}}, {}}}
	adds(t, notZero, n, with(notZero, 1, n), 1, api.OK) // it is the kind that makes a node free
	adds(t, disk.Disk{Most: 1, Room: 4}, n, disk.Disk{Most: 1, Room: 4, Nodes: nodes{n}}, 0, api.OK)
}

// P6.2
func TestAddTakesNodesOfAllSorts(t *testing.T) {
	d := disk.New(5, 9, 63)
	for _, n := range allSorts() {
		adds(t, d, n, with(d, 1, n), 1, api.OK)
	}
}

// P6.2
func TestAddRefusesMoreNodesThanMost(t *testing.T) {
	file := disk.Node{Kind: disk.File}
	for n := 1; n <= 100; n++ {
		for most := n - 1; most <= n+1; most++ {
			d := disk.Disk{Most: most, Room: 9, Nodes: slices.Repeat(nodes{file}, n)}
			if n >= most {
				refuses(t, d, file)
				continue
			}
			adds(t, d, file, with(d, n, file), n, api.OK)
		}
	}
	for _, n := range allSorts() { // of each sort, also one that is free
		refuses(t, disk.New(1, 9, 63), n)
	}
	free := disk.Disk{Most: 2, Room: 9, Nodes: nodes{file, {}, {}, {}}} // it is what is used that counts
	adds(t, free, file, with(free, 1, file), 1, api.OK)
	refuses(t, disk.Disk{Most: 2, Room: 9, Nodes: nodes{file, {}, file, {}}}, file)
	refuses(t, disk.Disk{Most: 1, Room: 9, Nodes: nodes{file, {}, file, {}}}, file)
	refuses(t, disk.Disk{Most: 2, Room: 9, Nodes: nodes{file, {}, {Kind: 4}}}, file)
	for _, most := range []int{0, -1, math.MinInt} {
		refuses(t, disk.Disk{Most: most, Room: 9}, file)
	}
	much := disk.Disk{Most: math.MaxInt, Room: math.MaxInt, Nodes: slices.Repeat(nodes{file}, 100)} // no limit but its own
	adds(t, much, file, with(much, 100, file), 100, api.OK)
	refuses(t, disk.Disk{}, file)
	refuses(t, odd(), disk.Node{Kind: disk.Dir})
}

// P6.2
func TestAddRefusesMoreBytesThanRoom(t *testing.T) {
	base := disk.Disk{Most: 9, Nodes: nodes{{Kind: disk.Dir, Links: 1}, {Kind: disk.File, Data: "abc"}, {}, {Kind: disk.Link, Data: "éé"}}} // 7 bytes
	for room := 7; room < 16; room++ {
		d := base
		d.Room = room
		for size := range 12 {
			for _, kind := range []int{disk.File, disk.Link, disk.Dir, disk.Free, 4, -1} {
				n := disk.Node{Kind: kind, Data: strings.Repeat("x", size)}
				if (kind == disk.File || kind == disk.Link) && 7+size > room {
					refuses(t, d, n)
				} else {
					adds(t, d, n, with(d, 2, n), 2, api.OK)
				}
			}
		}
	}
	d := disk.New(3, 1000, 63)
	n := disk.Node{Kind: disk.File, Data: strings.Repeat("x", 1000)}
	adds(t, d, n, with(d, 1, n), 1, api.OK)
	n.Data += "x"
	refuses(t, d, n)
	d = disk.New(3, 3, 63)
	adds(t, d, disk.Node{Kind: disk.File, Data: "aé"}, with(d, 1, disk.Node{Kind: disk.File, Data: "aé"}), 1, api.OK)
	refuses(t, d, disk.Node{Kind: disk.Link, Data: "éé"}) // bytes, not signs
	d = disk.New(3, 0, 63)
	adds(t, d, disk.Node{Kind: disk.File}, with(d, 1, disk.Node{Kind: disk.File}), 1, api.OK)
	refuses(t, d, disk.Node{Kind: disk.File, Data: "x"})
}

// P6.2: where Bytes is more than Room already, nothing is added, as with n's
// data, of which directories have none, it is that, too.
func TestAddToADiskThatIsOverfull(t *testing.T) {
	d := disk.Disk{Most: 9, Room: 2, Nodes: nodes{{Kind: disk.Dir, Links: 1}, {Kind: disk.File, Data: "abc"}}}
	for _, n := range allSorts() {
		refuses(t, d, n)
	}
	d.Room = 3
	adds(t, d, disk.Node{Kind: disk.Dir}, with(d, 2, disk.Node{Kind: disk.Dir}), 2, api.OK)
	for _, room := range []int{-1, math.MinInt} {
		refuses(t, disk.Disk{Most: 9, Room: room}, disk.Node{Kind: disk.Dir})
	}
}

// P6.2
func TestSettleFreesWhatNobodyHas(t *testing.T) {
	for _, kind := range []int{disk.File, disk.Dir, disk.Link, 4, -1} {
		for _, links := range []int{math.MinInt, -1, 0, 1, 2, 20, math.MaxInt} {
			for _, open := range []int{math.MinInt, -1, 0, 1, 2, math.MaxInt} {
				n := disk.Node{Kind: kind, Mode: 5, Owner: 3, Links: links, Open: open, Up: 1, Data: "xyz", Names: names{{Name: "a", Ino: 1}}}
				for _, i := range []int{1, 3, 8, 9} {
					d := with(rich(), i, n)
					if links < 1 && open < 1 {
						settles(t, d, i, with(d, i, disk.Node{}))
					} else {
						settles(t, d, i, copied(d))
					}
				}
				d := with(rich(), 0, n) // the root stays, whatever it is
				settles(t, d, 0, copied(d))
			}
		}
	}
}

// P6.2
func TestSettleLeavesAllElse(t *testing.T) {
	for _, d := range []disk.Disk{rich(), disk.New(1, 0, 0), {}} {
		for i := range d.Nodes {
			settles(t, d, i, copied(d))
		}
		for _, i := range append(nowhere, len(d.Nodes), len(d.Nodes)+1) {
			settles(t, d, i, copied(d))
		}
	}
	settles(t, odd(), 1, odd()) // free already, if not zero
	settles(t, odd(), 3, with(odd(), 3, disk.Node{}))
	lone := disk.Disk{Nodes: nodes{{}, {Kind: disk.File}}}
	settles(t, lone, 1, disk.Disk{Nodes: nodes{{}, {}}})
}

// P6.1, P6.2, and R4: what a node is taken from, or put into, does not share
// its names, and what is added behind all is not written behind the end of
// what was handed in.
func TestNodesShareNothing(t *testing.T) {
	d := rich()
	spoil := func(l names) {
		for i := range l[:cap(l)] {
			l[:cap(l)][i] = entry.Entry{Name: "?", Ino: -7}
		}
	}
	n, _ := disk.Get(d, 0)
	spoil(n.Names)
	same(t, d, rich(), "a disk of which a node was changed")

	mine := names{{Name: "a", Ino: 1}, {Name: "b", Ino: 2}}
	n = disk.Node{Kind: disk.Dir, Names: mine}
	set, want := disk.Set(d, 5, n), with(d, 5, disk.Node{Kind: disk.Dir, Names: slices.Clone(mine)})
	added, i, _ := disk.Add(d, n)
	spoil(mine)
	same(t, set, want, "Set of a node that was changed since")
	same(t, added.Nodes[i].Names, names{{Name: "a", Ino: 1}, {Name: "b", Ino: 2}}, "Add of a node that was changed since")

	full := slices.Repeat(nodes{{Kind: disk.File, Data: "x"}}, 4)
	part := disk.Disk{Most: 9, Room: 9, Nodes: full[:2]}
	one, _, _ := disk.Add(part, disk.Node{Kind: disk.Link, Data: "y"})
	two, _, _ := disk.Add(part, disk.Node{Kind: disk.Link, Data: "z"})
	if full[2].Data != "x" || one.Nodes[2].Data != "y" || two.Nodes[2].Data != "z" {
		t.Error(full, one, two)
	}
	one, _, _ = disk.Add(one, disk.Node{Kind: disk.File, Data: "1"})
	two, _, _ = disk.Add(disk.Set(one, 0, disk.Node{}), disk.Node{Kind: disk.File, Data: "2"})
	if len(one.Nodes) != 4 || one.Nodes[0].Data != "x" || two.Nodes[0].Data != "2" || one.Nodes[3].Data != "1" {
		t.Error(one, two)
	}
}

// R1: whatever is handed in, the calls end and do not panic.
func TestNothingPanics(t *testing.T) {
	numbers := []int{math.MinInt, -1, 0, 1, 2, 3, 4, 63, 64, math.MaxInt}
	draw := drawing(7)
	pick := func() int { return numbers[draw(len(numbers))] }
	for range 20000 {
		d := disk.Disk{Most: pick(), Room: pick()}
		for range draw(6) {
			n := disk.Node{Kind: draw(6) - 1, Mode: pick(), Owner: pick(), Links: pick(), Open: pick(), Up: pick(), Data: strings.Repeat("x", draw(3))}
			for range draw(4) {
				n.Names = append(n.Names, entry.Entry{Name: string(rune('a' + draw(4))), Ino: pick()})
			}
			d.Nodes = append(d.Nodes, n)
		}
		keeps(t, d, "all calls", func() {
			disk.Right(d)
			disk.Used(d)
			disk.Bytes(d)
			for _, i := range numbers {
				n, _ := disk.Get(d, i)
				disk.Right(disk.Set(d, i, n))
				disk.Right(disk.Settle(d, i))
				e, _, _ := disk.Add(d, n)
				disk.Right(e)
				disk.New(i, pick(), pick())
			}
		})
	}
}

// drawing tells a function that tells numbers from 0 on, each below the one
// that it is handed, in the same order each time.
func drawing(state uint64) func(n int) int {
	return func(n int) int {
		state = state*6364136223846793005 + 1442695040888963407
		return int(state>>33) % n
	}
}
