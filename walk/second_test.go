package walk_test

import (
	"fmt"
	"strings"
	"testing"

	"flagstone/api"
	"flagstone/disk"
	"flagstone/mode"
	"flagstone/route"
	"flagstone/walk"
)

// second goes ways by another way than the program: a link is a way of its own,
// that is gone to its end ahead of what is left. It counts the links.
type second struct {
	d    disk.Disk
	who  int
	hops int
}

func (s *second) walk(a ask) (walk.Spot, api.Errno) {
	if e := route.Check(a.path); e != api.OK {
		return walk.Spot{}, e
	}
	slash := a.path[len(a.path)-1] == '/'
	spot, e := s.text(a.from, a.path, a.follow || slash)
	if e == api.OK && slash && spot.Ino >= 0 && s.d.Nodes[spot.Ino].Kind != disk.Dir {
		e = api.ErrNotDir
	}
	if e != api.OK {
		return walk.Spot{}, e
	}
	spot.Slash = slash
	return spot, api.OK
}

// text tells where a path, or what a link says, leads.
func (s *second) text(at int, text string, follow bool) (walk.Spot, api.Errno) {
	if text[0] == '/' {
		at = 0
	}
	spot := walk.Spot{}
	parts := strings.FieldsFunc(text, func(r rune) bool { return r == '/' })
	for i, part := range parts {
		ino, e := s.part(at, part)
		if e != api.OK {
			return walk.Spot{}, e
		}
		spot = walk.Spot{Dir: at, Name: part, Ino: ino}
		last := i == len(parts)-1
		if ino >= 0 && s.d.Nodes[ino].Kind == disk.Link && (!last || follow) {
			if spot, e = s.link(at, s.d.Nodes[ino].Data); e != api.OK {
				return walk.Spot{}, e
			}
		}
		if spot.Ino < 0 && !last {
			return walk.Spot{}, api.ErrNone
		}
		at = spot.Ino
	}
	return spot, api.OK
}

func (s *second) link(at int, text string) (walk.Spot, api.Errno) {
	if s.hops++; s.hops > 8 {
		return walk.Spot{}, api.ErrLoop
	}
	if e := route.Check(text); e != api.OK {
		return walk.Spot{}, e
	}
	return s.text(at, text, true)
}

// part tells what one part names at a node.
func (s *second) part(at int, part string) (int, api.Errno) {
	if at < 0 || at >= len(s.d.Nodes) || s.d.Nodes[at].Kind == disk.Free {
		return 0, api.ErrNone
	}
	n := s.d.Nodes[at]
	if n.Kind != disk.Dir {
		return 0, api.ErrNotDir
	}
	if !mode.May(n.Mode, n.Owner, s.who, 1) {
		return 0, api.ErrAccess
	}
	names := map[string]int{".": at, "..": n.Up}
	for _, e := range n.Names {
		names[e.Name] = e.Ino
	}
	if ino, is := names[part]; is {
		return ino, api.OK
	}
	return -1, api.OK
}

// agrees holds both answers against the second way's.
func agrees(t *testing.T, d disk.Disk, a ask) {
	t.Helper()
	s := second{d: d, who: a.who}
	spot, e := s.walk(a)
	if got, err := walk.Walk(d, a.who, a.from, a.path, a.follow); got != spot || err != e {
		t.Fatalf("Walk of %+v = %+v, %d; want %+v, %d", a, got, err, spot, e)
	}
	ino := spot.Ino
	if e == api.OK && ino < 0 {
		ino, e = 0, api.ErrNone
	}
	if got, err := walk.Node(d, a.who, a.from, a.path, a.follow); got != ino || err != e {
		t.Fatalf("Node of %+v = %d, %d; want %d, %d", a, got, err, ino, e)
	}
}

// rows hands over each row of up to most of the parts, none but the empty one left out.
func rows(parts []string, most int, see func(row string)) {
	var grow func(row string, left int)
	grow = func(row string, left int) {
		for _, part := range parts {
			longer := route.Join(row, part)
			see(longer)
			if left > 1 {
				grow(longer, left-1)
			}
		}
	}
	grow("", most)
}

// P7.1, P7.2: each path of up to four parts, from everywhere.
func TestEachShortPath(t *testing.T) {
	d := hold(t, dir("a", 60, 1), dir("a/a", 63, 0), file("a/f"), link("l", "a/a"), file("f"), link("a/l", "../l/.."), link("a/a/l", "/f/"), link("a/a/f", "/"))
	d.Nodes = append(d.Nodes, disk.Node{}, disk.Node{Kind: disk.Dir, Mode: 63, Open: 1})
	d.Most = len(d.Nodes)
	if !disk.Right(d) {
		t.Fatal("the disk is not right")
	}
	rows([]string{".", "..", "a", "f", "l", "x"}, 4, func(row string) {
		for _, path := range []string{row, "/" + row, row + "/", "//" + row + "//"} {
			for _, who := range []int{0, 1, 2} {
				for from := range 11 {
					agrees(t, d, ask{who, from - 1, path, false})
					agrees(t, d, ask{who, from - 1, path, true})
				}
			}
		}
	})
}

// some tells a right disk by draws, with many links.
func some(t *testing.T, draw func(n int) int) disk.Disk {
	l := []string{"a", "b", "c", "d"}
	dirs := []string{""}
	taken := map[string]bool{}
	var these []thing
	for range 4 + draw(12) {
		at := route.Join(dirs[draw(len(dirs))], l[draw(len(l))])
		if taken[at] {
			continue
		}
		taken[at] = true
		switch draw(6) {
		case 0, 1:
			these = append(these, dir(at, []int{63, 63, 60, 57, 1, 8, 0}[draw(7)], draw(3)))
			dirs = append(dirs, at)
		case 2:
			these = append(these, file(at))
		default:
			these = append(these, link(at, way(draw)))
		}
	}
	return hold(t, these...)
}

// way tells a path by draws, and now and then what is none.
func way(draw func(n int) int) string {
	text := strings.Repeat("/", draw(4)/2)
	for range draw(6) {
		text += []string{"a", "b", "c", "d", "a", "b", "c", "d", ".", ".."}[draw(10)] + strings.Repeat("/", 1+draw(4)/3)
	}
	if draw(2) == 0 {
		text = strings.TrimRight(text, "/")
	}
	if draw(40) == 0 {
		text += []string{"abcdefghijklm", "\x00", strings.Repeat("/", 101)}[draw(3)]
	}
	return text
}

// P7.1, P7.2: of many disks, many paths.
func TestManyDisks(t *testing.T) {
	draw := drawing(11)
	told := map[string]int{}
	for range 3000 {
		d := some(t, draw)
		for range 60 {
			a := ask{draw(3), draw(len(d.Nodes)+2) - 1, way(draw), draw(2) == 0}
			agrees(t, d, a)
			s := second{d: d, who: a.who}
			_, e := s.walk(a)
			told[fmt.Sprint(e)]++
			told[fmt.Sprint("hops ", s.hops)]++
		}
	}
	for _, what := range []string{"0", "1", "2", "4", "7", "8", "9", "hops 0", "hops 1", "hops 2", "hops 4", "hops 8", "hops 9"} {
		if told[what] < 20 {
			t.Errorf("too few of %s: %v", what, told)
		}
	}
}

// P7.3: a path that is joined goes where its parts go, one behind the other; and no path takes more than eight links.
func TestPathsThatAreJoined(t *testing.T) {
	draw := drawing(12)
	whole, cut := 0, 0
	for range 3000 {
		d := some(t, draw)
		for range 60 {
			a := ask{draw(3), draw(len(d.Nodes)), way(draw), draw(2) == 0}
			behind := strings.TrimLeft(way(draw), "/")
			joined := route.Join(a.path, behind)
			if route.Check(a.path) != api.OK || route.Check(behind) != api.OK || route.Check(joined) != api.OK {
				continue
			}
			first, then := second{d: d, who: a.who}, second{d: d, who: a.who}
			var want walk.Spot
			first.walk(ask{a.who, a.from, a.path, true})
			ino, e := walk.Node(d, a.who, a.from, a.path, true)
			if e == api.OK {
				then.walk(ask{a.who, ino, behind, a.follow})
				want, e = walk.Walk(d, a.who, ino, behind, a.follow)
			}
			if first.hops+then.hops > 8 {
				want, e = walk.Spot{}, api.ErrLoop
				cut++
			}
			if got, err := walk.Walk(d, a.who, a.from, joined, a.follow); got != want || err != e {
				t.Fatalf("%+v, and then %q: %+v, %d; want %+v, %d", a, behind, got, err, want, e)
			}
			if e == api.OK {
				whole++
			}
		}
	}
	if whole < 1000 || cut < 100 {
		t.Error("too few that lead anywhere, or take too many links: ", whole, cut)
	}
}
