package content_test

import (
	"fmt"
	"math"
	"strings"
	"testing"

	"flagstone/api"
	"flagstone/content"
	"flagstone/disk"
	"flagstone/entry"
)

// hold tells a right disk of that room: the root, a file that has data (1), a
// link of 3 bytes (2), a free node (3), a file of 2 bytes (4), an empty
// directory (5), and an open file without a name (6).
func hold(t *testing.T, room int, data string) disk.Disk {
	t.Helper()
	d := some(room, data)
	if !disk.Right(d) {
		t.Fatalf("not right: %+v", d)
	}
	return d
}

// some is hold, of all rooms, also such as have no room for the data.
func some(room int, data string) disk.Disk {
	return disk.Disk{Most: 9, Room: room, Nodes: []disk.Node{
		{Kind: disk.Dir, Mode: 63, Links: 1, Names: []entry.Entry{{Name: "a", Ino: 1}, {Name: "d", Ino: 5}, {Name: "f", Ino: 4}, {Name: "g", Ino: 1}, {Name: "l", Ino: 2}}},
		{Kind: disk.File, Mode: 37, Owner: 3, Links: 2, Open: 4, Data: data},
		{Kind: disk.Link, Mode: 63, Links: 1, Data: "../"},
		{},
		{Kind: disk.File, Mode: 0, Links: 1, Data: "xy"},
		{Kind: disk.Dir, Mode: 7, Owner: 2, Links: 1, Open: 1},
		{Kind: disk.File, Mode: 52, Open: 1},
	}}
}

// beside is how many bytes hold's disk has beside file 1.
const beside = 5

// odd tells a disk that is right in nothing: kinds that there are not, free
// nodes that are not zero, data of directories, and names of files.
func odd(room int) disk.Disk {
	return disk.Disk{Most: -1, Room: room, Nodes: []disk.Node{
		{Kind: disk.File, Mode: -1, Owner: -2, Links: -3, Open: -4, Up: -5, Data: "abc", Names: []entry.Entry{{Name: "/", Ino: -1}, {Name: "", Ino: 99}}},
		{Kind: disk.Free, Mode: 7, Links: 2, Data: "gone"},
		{Kind: 4, Data: "four"},
		{Kind: -1, Data: "below"},
		{Kind: disk.Dir, Up: 99, Data: "dir", Names: []entry.Entry{{Name: "b", Ino: 0}, {Name: "a", Ino: 4}}},
		{Kind: disk.Link, Data: "éé"},
		{Kind: math.MaxInt, Data: "most"},
		{Kind: math.MinInt, Data: "least"},
	}}
}

// far are numbers that are below 0, or beyond all that a file can have.
var far = []int{math.MinInt, math.MinInt + 1, -1 << 32, -1000, -1, 1 << 31, 1 << 32, math.MaxInt - 3, math.MaxInt}

func told(d disk.Disk) string { return fmt.Sprintf("%+v", d) }

// with tells d with that data in file ino, and all else as it was.
func with(d disk.Disk, ino int, data string) disk.Disk {
	d.Nodes = append([]disk.Node{}, d.Nodes...)
	d.Nodes[ino].Data = data
	return d
}

// deed is a change of a file: a write of s, or a cut.
type deed struct {
	cut     bool
	ino, at int
	s       string
}

func (x deed) do(d disk.Disk) (disk.Disk, api.Errno) {
	if x.cut {
		return content.Cut(d, x.ino, x.at)
	}
	return content.Write(d, x.ino, x.at, x.s)
}

func write(at int, s string) deed { return deed{false, 1, at, s} }
func cut(n int) deed              { return deed{true, 1, n, ""} }

// makes holds what x makes of d against the data that the file has to have.
func (x deed) makes(t *testing.T, d disk.Disk, want string) {
	t.Helper()
	x.answers(t, d, with(d, x.ino, want), api.OK)
}

func (x deed) refused(t *testing.T, d disk.Disk, want api.Errno) {
	t.Helper()
	x.answers(t, d, d, want)
}

func (x deed) answers(t *testing.T, d, want disk.Disk, e api.Errno) {
	t.Helper()
	before := told(d)
	got, err := x.do(d)
	if told(got) != told(want) || err != e {
		t.Errorf("%.200v, %d; want %d:\n%.2000v\n%.2000v", x, err, e, told(got), told(want))
	}
	if told(d) != before {
		t.Errorf("%.200v changes what is handed in", x)
	}
}

func reads(t *testing.T, d disk.Disk, ino, at, n int, want string, e api.Errno) {
	t.Helper()
	if got, err := content.Read(d, ino, at, n); got != want || err != e {
		t.Errorf("Read %d, %d, %d: %q, %d; want %q, %d", ino, at, n, got, err, want, e)
	}
}

func sizes(t *testing.T, d disk.Disk, ino, want int, e api.Errno) {
	t.Helper()
	if got, err := content.Size(d, ino); got != want || err != e {
		t.Errorf("Size %d: %d, %d; want %d, %d", ino, got, err, want, e)
	}
}

// P9.1, P9.2, P9.3: the errors of the file, ahead of all others, by each call.
func TestTheFile(t *testing.T) {
	right, none := hold(t, 100, "abc"), disk.Disk{Most: 5, Room: 100}
	cases := []struct {
		d    disk.Disk
		ino  int
		want api.Errno
	}{
		{right, 0, api.ErrIsDir},
		{right, 2, api.ErrArg},
		{right, 3, api.ErrNone},
		{right, 5, api.ErrIsDir},
		{right, 7, api.ErrNone},
		{none, 0, api.ErrNone},
		{none, 1, api.ErrNone},
		{odd(100), 1, api.ErrNone}, // free, though it is not zero
		{odd(100), 2, api.ErrArg},  // of a kind that there is not
		{odd(100), 3, api.ErrArg},
		{odd(100), 4, api.ErrIsDir},
		{odd(100), 5, api.ErrArg},
		{odd(100), 6, api.ErrArg},
		{odd(100), 7, api.ErrArg},
		{odd(100), 8, api.ErrNone},
	}
	for _, i := range far {
		cases = append(cases, cases[0])
		last := &cases[len(cases)-1]
		last.ino, last.want = i, api.ErrNone
	}
	for _, c := range cases {
		sizes(t, c.d, c.ino, 0, c.want)
		for _, at := range []int{0, 1, -1, 1001, math.MinInt, math.MaxInt} {
			reads(t, c.d, c.ino, at, 1, "", c.want)
			reads(t, c.d, c.ino, 0, at, "", c.want)
			deed{true, c.ino, at, ""}.refused(t, c.d, c.want)
			for _, s := range []string{"", "x", strings.Repeat("x", 101)} {
				deed{false, c.ino, at, s}.refused(t, c.d, c.want)
			}
		}
	}
}

// P9.1
func TestReadTellsBytesFromAPlaceOn(t *testing.T) {
	for _, c := range []struct {
		data  string
		at, n int
		want  string
	}{
		{"abcde", 0, 0, ""},
		{"abcde", 0, 1, "a"},
		{"abcde", 0, 5, "abcde"},
		{"abcde", 0, 6, "abcde"},
		{"abcde", 1, 3, "bcd"},
		{"abcde", 3, 2, "de"},
		{"abcde", 3, 9, "de"},
		{"abcde", 4, 0, ""},
		{"abcde", 4, 1, "e"},
		{"abcde", 5, 1, ""}, // at its end
		{"abcde", 6, 1, ""}, // behind it
		{"abcde", 1001, 1, ""},
		{"abcde", 0, 1001, "abcde"},
		{"abcde", 0, math.MaxInt, "abcde"},
		{"abcde", 1, math.MaxInt, "bcde"}, // at + n goes round
		{"abcde", 5, math.MaxInt, ""},
		{"abcde", math.MaxInt, 0, ""},
		{"abcde", math.MaxInt, 5, ""},
		{"abcde", math.MaxInt, math.MaxInt, ""},
		{"", 0, 0, ""},
		{"", 0, 4, ""},
		{"", 4, 4, ""},
		{"a\x00\x00b\xff", 1, 3, "\x00\x00b"},
		{"aéb", 2, 2, "\xa9b"}, // bytes, not signs
	} {
		reads(t, some(100, c.data), 1, c.at, c.n, c.want, api.OK)
		reads(t, some(0, c.data), 1, c.at, c.n, c.want, api.OK) // whatever the room
	}
	d := hold(t, 100, "abc")
	reads(t, d, 4, 1, 9, "y", api.OK) // a file that nobody may read: who asks is not looked at
	reads(t, d, 6, 0, 9, "", api.OK)
	reads(t, odd(-5), 0, 1, 9, "bc", api.OK)
	long := strings.Repeat("ab", 750)
	reads(t, some(9, long), 1, 1001, 1500, long[1001:], api.OK) // more than any room
}

// P9.1
func TestReadRefusesNumbersBelowZero(t *testing.T) {
	for _, i := range []int{-1, -2, -1000, -1 << 32, math.MinInt} {
		for _, data := range []string{"", "abcde"} {
			d := hold(t, 100, data)
			for _, other := range []int{0, 1, 9, -1, math.MinInt, math.MaxInt} {
				reads(t, d, 1, i, other, "", api.ErrArg)
				reads(t, d, 1, other, i, "", api.ErrArg)
			}
		}
	}
}

// P9.1
func TestSizeTellsHowManyBytes(t *testing.T) {
	for _, data := range []string{"", "a", "abcde", "\x00\x00", "aéb", "\xff", strings.Repeat("x", 1500)} {
		sizes(t, some(100, data), 1, len(data), api.OK)
	}
	d := hold(t, 100, "abc")
	sizes(t, d, 4, 2, api.OK)
	sizes(t, d, 6, 0, api.OK)
	sizes(t, odd(-5), 0, 3, api.OK)
}

// P9.2
func TestWriteStandsFromAPlaceOn(t *testing.T) {
	for _, c := range []struct {
		data string
		at   int
		s    string
		want string
	}{
		{"abc", 5, "x", "abc\x00\x00x"}, // the chapter's example
		{"abc", 0, "x", "xbc"},
		{"abc", 1, "xy", "axy"},
		{"abc", 0, "xyz", "xyz"},
		{"abc", 0, "wxyz", "wxyz"},
		{"abc", 2, "xy", "abxy"},
		{"abc", 3, "xy", "abcxy"}, // at its end
		{"abc", 4, "xy", "abc\x00xy"},
		{"", 0, "xy", "xy"},
		{"", 1, "x", "\x00x"},
		{"abc", 1, "\x00", "a\x00c"},
		{"abc", 0, "é", "éc"},
		{"aéb", 1, "x", "ax\xa9b"}, // bytes, not signs
		{"abc", 1, "b", "abc"},
	} {
		write(c.at, c.s).makes(t, hold(t, 100, c.data), c.want)
	}
	d := hold(t, 100, "abc")
	deed{ino: 4, at: 3, s: "z"}.makes(t, d, "xy\x00z") // a file that nobody may write: who asks is not looked at
	deed{ino: 6, at: 0, s: "z"}.makes(t, d, "z")
	deed{ino: 0, at: 2, s: "yz"}.makes(t, odd(100), "abyz") // and all its other fields stay
}

// P9.2
func TestWriteOfNothing(t *testing.T) {
	for _, room := range []int{0, beside, 100, -1} {
		for _, at := range []int{0, 1, 3, 4, 1000, 1001, 1 << 32, math.MaxInt} {
			for _, data := range []string{"", "abc", strings.Repeat("x", 1500)} {
				write(at, "").makes(t, some(room, data), data)
			}
		}
	}
}

// P9.2
func TestWriteRefusesPlacesBelowZero(t *testing.T) {
	for _, at := range []int{-1, -2, -1000, -1 << 32, math.MinInt} {
		for _, s := range []string{"", "x", strings.Repeat("x", 1500)} { // ahead of nothing to write, and of no room
			write(at, s).refused(t, hold(t, 100, "abc"), api.ErrArg)
			write(at, s).refused(t, some(0, "abc"), api.ErrArg)
		}
	}
}

// P9.2
func TestWriteTakesNoMoreThanTheRoom(t *testing.T) {
	d := hold(t, beside+6, "abc")
	write(3, "xyz").makes(t, d, "abcxyz") // all that there is
	write(3, "wxyz").refused(t, d, api.ErrSpace)
	write(0, "uvwxyz").makes(t, d, "uvwxyz")
	write(0, "tuvwxyz").refused(t, d, api.ErrSpace)
	write(5, "x").makes(t, d, "abc\x00\x00x")
	write(6, "x").refused(t, d, api.ErrSpace) // bytes 0 take room
	deed{ino: 6, at: 0, s: "xyz"}.makes(t, d, "xyz")
	deed{ino: 6, at: 0, s: "wxyz"}.refused(t, d, api.ErrSpace)
	full := hold(t, beside+3, "abc")
	write(2, "x").makes(t, full, "abx") // nothing more
	write(3, "x").refused(t, full, api.ErrSpace)
	for _, room := range []int{beside + 2, 1, 0, -1, math.MinInt} { // more than the room already
		write(0, "xyz").makes(t, some(room, "abc"), "xyz")
		write(2, "xy").refused(t, some(room, "abc"), api.ErrSpace)
		deed{ino: 6, at: 0, s: "x"}.refused(t, some(room, "abc"), api.ErrSpace)
	}
	deed{ino: 0, at: 3, s: "x"}.makes(t, odd(8), "abcx") // only files and links take room
	deed{ino: 0, at: 3, s: "x"}.refused(t, odd(7), api.ErrSpace)
}

// P9.2
func TestWriteRefusesPlacesAboveMaxRoom(t *testing.T) {
	long := strings.Repeat("x", 1500)
	for _, at := range []int{1001, 1002, 1400, 1500, 2000, 1 << 31, 1 << 32, math.MaxInt - 1, math.MaxInt} {
		write(at, "y").refused(t, hold(t, 1000, "abc"), api.ErrSpace)
		write(at, "y").refused(t, some(math.MaxInt, "abc"), api.ErrSpace)
		write(at, "y").refused(t, some(math.MaxInt, long), api.ErrSpace) // also where it has such a place
	}
	write(1000, "y").makes(t, some(math.MaxInt, "abc"), "abc"+strings.Repeat("\x00", 997)+"y")
	write(1000, "y").refused(t, hold(t, 1000, "abc"), api.ErrSpace)
	write(994, "y").makes(t, hold(t, 1000, "abc"), "abc"+strings.Repeat("\x00", 991)+"y")
	write(995, "y").refused(t, hold(t, 1000, "abc"), api.ErrSpace)
	write(1000, "yz").makes(t, some(0, long), long[:1000]+"yz"+long[1002:])
	write(1000, long).makes(t, some(4000, long), long[:1000]+long) // it is the place that is above, not the end
}

// P9.3
func TestCutMakesDataAsLongAsAsked(t *testing.T) {
	for _, c := range []struct {
		data string
		n    int
		want string
	}{
		{"abcde", 0, ""},
		{"abcde", 1, "a"},
		{"abcde", 4, "abcd"},
		{"abcde", 5, "abcde"},
		{"abcde", 6, "abcde\x00"},
		{"abcde", 8, "abcde\x00\x00\x00"},
		{"", 0, ""},
		{"", 2, "\x00\x00"},
		{"a\x00\x00", 2, "a\x00"},
		{"aéb", 2, "a\xc3"}, // bytes, not signs
	} {
		cut(c.n).makes(t, hold(t, 100, c.data), c.want)
	}
	d := hold(t, 100, "abc")
	deed{cut: true, ino: 4, at: 1}.makes(t, d, "x")
	deed{cut: true, ino: 4, at: 3}.makes(t, d, "xy\x00")
	deed{cut: true, ino: 6, at: 1}.makes(t, d, "\x00")
	deed{cut: true, ino: 0, at: 4}.makes(t, odd(100), "abc\x00") // and all its other fields stay
}

// P9.3
func TestCutRefusesLengthsBelowZero(t *testing.T) {
	for _, n := range []int{-1, -2, -1000, -1 << 32, math.MinInt} {
		for _, data := range []string{"", "abc"} {
			cut(n).refused(t, hold(t, 100, data), api.ErrArg)
			cut(n).refused(t, some(0, data), api.ErrArg)
		}
	}
}

// P9.3
func TestCutTakesNoMoreThanTheRoom(t *testing.T) {
	d := hold(t, beside+6, "abc")
	cut(6).makes(t, d, "abc\x00\x00\x00") // all that there is
	cut(7).refused(t, d, api.ErrSpace)
	deed{cut: true, ino: 6, at: 3}.makes(t, d, "\x00\x00\x00")
	deed{cut: true, ino: 6, at: 4}.refused(t, d, api.ErrSpace)
	for _, room := range []int{beside + 3, beside + 2, 1, 0, -1, math.MinInt} { // nothing more than the room, or more already
		cut(3).makes(t, some(room, "abc"), "abc") // what has no less bytes is not refused
		cut(2).makes(t, some(room, "abc"), "ab")
		cut(0).makes(t, some(room, "abc"), "")
		cut(4).refused(t, some(room, "abc"), api.ErrSpace)
		deed{cut: true, ino: 6, at: 1}.refused(t, some(room, "abc"), api.ErrSpace)
	}
	deed{cut: true, ino: 0, at: 4}.makes(t, odd(8), "abc\x00") // only files and links take room
	deed{cut: true, ino: 0, at: 4}.refused(t, odd(7), api.ErrSpace)
}

// P9.3
func TestCutRefusesMoreThanMaxRoom(t *testing.T) {
	long := strings.Repeat("x", 1500)
	for _, n := range []int{1001, 1002, 1499, 1500, 1501, 1 << 31, 1 << 32, math.MaxInt - 1, math.MaxInt} {
		cut(n).refused(t, hold(t, 1000, "abc"), api.ErrSpace)
		cut(n).refused(t, some(math.MaxInt, "abc"), api.ErrSpace)
		if n > 1500 {
			cut(n).refused(t, some(math.MaxInt, long), api.ErrSpace)
			continue
		}
		for _, room := range []int{0, 1000, math.MaxInt} { // what it has already is not too long
			cut(n).makes(t, some(room, long), long[:n])
		}
	}
	cut(1000).makes(t, some(math.MaxInt, "abc"), "abc"+strings.Repeat("\x00", 997))
	cut(1000).refused(t, hold(t, 1000, "abc"), api.ErrSpace)
	cut(995).makes(t, hold(t, 1000, "abc"), "abc"+strings.Repeat("\x00", 992))
	cut(996).refused(t, hold(t, 1000, "abc"), api.ErrSpace)
}

// R1: no call panics, or goes on and on, at numbers that are far off.
func TestNothingPanics(t *testing.T) {
	numbers := append([]int{0, 1, 2, 3, 4, 7, 999, 1000, 1001}, far...)
	for _, d := range []disk.Disk{{}, some(100, "abc"), some(math.MaxInt, "abc"), some(math.MinInt, ""), odd(100), odd(math.MaxInt), odd(math.MinInt)} {
		before := told(d)
		for _, ino := range numbers {
			content.Size(d, ino)
			for _, at := range numbers {
				content.Cut(d, ino, at)
				for _, s := range []string{"", "x", "wxyz"} {
					content.Write(d, ino, at, s)
				}
				for _, n := range numbers {
					content.Read(d, ino, at, n)
				}
			}
		}
		if told(d) != before {
			t.Errorf("changes what is handed in: %s", before)
		}
	}
}
