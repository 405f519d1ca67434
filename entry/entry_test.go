package entry_test

import (
	"fmt"
	"maps"
	"math"
	"slices"
	"sort"
	"strings"
	"testing"

	"flagstone/api"
	"flagstone/entry"
)

// list tells a list of these names: the first names node 1, the next one 2, ..
func list(names ...string) []entry.Entry {
	var l []entry.Entry
	for at, name := range names {
		l = append(l, entry.Entry{Name: name, Ino: at + 1})
	}
	return l
}

// subsets hands over each list of some of the names, in order.
func subsets(names []string, see func(l []entry.Entry)) {
	for set := range 1 << len(names) {
		var l []entry.Entry
		for at, name := range names {
			if set&(1<<at) != 0 {
				l = append(l, entry.Entry{Name: name, Ino: 10 + at})
			}
		}
		see(l)
	}
}

// long tells a sorted list of n entries: of the names 000, 002, 004, ..
func long(n int) []entry.Entry {
	var l []entry.Entry
	for at := range n {
		l = append(l, entry.Entry{Name: fmt.Sprintf("%03d", 2*at), Ino: at})
	}
	return l
}

// Names that are near to each other, in order.
var near = []string{"\x01", "-", "...", "A", "a", "a\x01", "aa", "ab", "b", "\xff"}

func legal(t *testing.T, name string, want api.Errno) {
	t.Helper()
	if e := entry.Legal(name); e != want {
		t.Errorf("Legal(%q) = %d, want %d", name, e, want)
	}
}

func finds(t *testing.T, l []entry.Entry, name string, ino int, is bool) {
	t.Helper()
	if n, found := entry.Find(l, name); n != ino || found != is {
		t.Errorf("Find(%v, %q) = %d, %v; want %d, %v", l, name, n, found, ino, is)
	}
}

func puts(t *testing.T, l []entry.Entry, e entry.Entry, want []entry.Entry) {
	t.Helper()
	before := slices.Clone(l)
	same(t, entry.Put(l, e), want, "Put(%v, %v)", before, e)
	same(t, l, before, "what Put(%v, %v) left", before, e)
}

func drops(t *testing.T, l []entry.Entry, name string, want []entry.Entry) {
	t.Helper()
	before := slices.Clone(l)
	same(t, entry.Drop(l, name), want, "Drop(%v, %q)", before, name)
	same(t, l, before, "what Drop(%v, %q) left", before, name)
}

func same(t *testing.T, got, want []entry.Entry, call string, args ...any) {
	t.Helper()
	if !slices.Equal(got, want) {
		t.Errorf(call+" = %v, want %v", append(args, got, want)...)
	}
}

// ofMap tells the list that has the names of m, with their nodes.
func ofMap(m map[string]int) []entry.Entry {
	var l []entry.Entry
	for _, name := range slices.Sorted(maps.Keys(m)) {
		l = append(l, entry.Entry{Name: name, Ino: m[name]})
	}
	return l
}

func toMap(l []entry.Entry) map[string]int {
	m := map[string]int{}
	for _, e := range l {
		m[e.Name] = e.Ino
	}
	return m
}

// P5.1
func TestLegalTakesNames(t *testing.T) {
	for _, name := range []string{
		"a", "Z", "0", "a.b", ".a", "a.", "..a", "a..", "...", "....", ". ", " .", ".\x01", "-", "--", "~", "*",
		" ", "  ", "\n", "\t", "a b", "a\nb", "\\", "a\\b", ":", "é", "ééé", "∕", "／",
		"\x01", "\x7f", "\x80", "\xff", "\xff\xfe", "a\xff", "\xc0\x80", "\xc0\xaf", "\xe2\x80", "\ufffd", "\u2028",
		"abcdefghijk", "abcdefghijkl", "............", "éééééé", "            ", strings.Repeat("\xff", 12),
	} {
		legal(t, name, api.OK)
	}
}

// P5.1
func TestLegalRefusesWhatIsNoName(t *testing.T) {
	for _, name := range []string{
		"", ".", "..", "/", "//", "/a", "a/", "a/b", "./", "../", "./a", "/.", "/..", "\xff/", "\xe2/", "\xe2\x80/", "é/",
		"\x00", "\x00\x00", "a\x00", "\x00a", "a\x00b", ".\x00", "..\x00", "\xff\x00", "\xc3\x00", "/\x00", "\x00/",
		"abcdefghijk/", "/bcdefghijkl", "abcdefghijk\x00", "abcdef/hijkl",
	} {
		legal(t, name, api.ErrArg)
	}
}

// P5.1
func TestLegalRefusesWhatIsTooLong(t *testing.T) {
	if api.MaxName != 12 {
		t.Fatal(api.MaxName)
	}
	for _, name := range []string{
		"abcdefghijklm", ".............", "             ", "ééééééé", "aéééééé", "éééééée", // bytes, not signs
		strings.Repeat("\xff", 13), strings.Repeat("a", 100), strings.Repeat("a", 300), strings.Repeat("é", 150),
	} {
		legal(t, name, api.ErrLong)
	}
}

// P5.1, and R2: what is too long, and has a byte that may not be, is told the error that is named first.
func TestLegalTellsTheFirstError(t *testing.T) {
	for _, name := range []string{
		"abcdefghijklm/", "/abcdefghijklm", "abcdefg/hijklm", "abcdefghijklm\x00", "\x00abcdefghijklm",
		strings.Repeat("a", 299) + "/", strings.Repeat("a", 299) + "\x00", strings.Repeat("/", 13), strings.Repeat("\x00", 300), strings.Repeat("\xff", 299) + "/",
	} {
		legal(t, name, api.ErrArg)
	}
}

// P5.1: of each text of one byte or two, and of each byte in each place of longer ones.
func TestLegalOfEachByte(t *testing.T) {
	want := func(bytes ...byte) api.Errno {
		for _, b := range bytes {
			if b == '/' || b == 0 {
				return api.ErrArg
			}
		}
		return api.OK
	}
	for a := range 256 {
		if a != '.' {
			legal(t, string([]byte{byte(a)}), want(byte(a)))
		}
		for b := range 256 {
			if a != '.' || b != '.' {
				legal(t, string([]byte{byte(a), byte(b)}), want(byte(a), byte(b)))
			}
		}
		for size := 3; size < 15; size++ {
			for at := range size {
				text := []byte(strings.Repeat(".", size))
				text[at] = byte(a)
				e := want(byte(a))
				if e == api.OK && size > 12 {
					e = api.ErrLong
				}
				legal(t, string(text), e)
			}
		}
	}
}

// P5.1
func TestSortedTakesNamesThatRise(t *testing.T) {
	for _, l := range [][]entry.Entry{
		nil,
		{},
		list("a"),
		list("..."),
		list("\xff"),
		list("a", "b"),
		list("a", "aa"), // the shorter one is below
		list("a", "a\x01"),
		list("aa", "ab", "b"),
		list("B", "a"), // byte by byte
		list("Z", "a", "~", "é"),
		list("z", "é", "\xff"),
		list("10", "9"),
		list("abcdefghijk", "abcdefghijkl"),
		list("-", "...", "0", "A", "a"),
		{{Name: "a", Ino: 9}, {Name: "b", Ino: 2}, {Name: "c", Ino: 2}}, // of nodes nothing is asked
		{{Name: "a", Ino: -1}, {Name: "b", Ino: math.MinInt}, {Name: "c", Ino: math.MaxInt}, {Name: "d"}},
		long(100),
	} {
		if !entry.Sorted(l) {
			t.Errorf("Sorted(%v) = false", l)
		}
	}
}

// P5.1
func TestSortedRefusesAllOtherLists(t *testing.T) {
	for _, l := range [][]entry.Entry{
		list("b", "a"),
		list("a", "a"), // above, not beside
		list("aa", "a"),
		list("a", "B"),
		list("é", "z"),
		list("\xff", "é"),
		list("9", "10"),
		list("a", "c", "b"),
		list("b", "a", "c"),
		list("a", "b", "b"),
		list("a", "b", "a"),
		list("a", "b", "c", "d", "c"),
		list(""),
		list("."),
		list(".."),
		list("a/b"),
		list("a\x00"),
		list("abcdefghijklm"),
		list("", "a"),
		list("-", ".", "a"),
		list("-", "..", "a"),
		list("a", "a\x00"),
		list("a", "a/b", "b"),
		list("a", "abcdefghijklm"), // the last one, too
		list("a", "b", "c/"),
	} {
		if entry.Sorted(l) {
			t.Errorf("Sorted(%v) = true", l)
		}
	}
	for at := range 100 { // whichever of many it is
		l := long(100)
		l[at].Name = "a/"
		if entry.Sorted(l) {
			t.Errorf("Sorted of names of which the one at %d is not legal", at)
		}
		l = long(100)
		l[at].Name = l[(at+99)%100].Name
		if entry.Sorted(l) {
			t.Errorf("Sorted of names of which the one at %d is not above the one ahead", at)
		}
	}
}

// P5.1: of each order of four names.
func TestSortedOfEachOrder(t *testing.T) {
	names := []string{"a", "a.", "aa", "\xff", "..", ""}
	for n := range 6 * 6 * 6 * 6 {
		pick := []string{names[n%6], names[n/6%6], names[n/36%6], names[n/216]}
		want := sort.StringsAreSorted(pick) && pick[0] != pick[1] && pick[1] != pick[2] && pick[2] != pick[3]
		for _, name := range pick {
			want = want && name != "" && name != ".."
		}
		if entry.Sorted(list(pick...)) != want {
			t.Errorf("Sorted of %q = %v", pick, !want)
		}
	}
}

// P5.2
func TestFindTellsTheNode(t *testing.T) {
	l := []entry.Entry{{"B", 7}, {"a", 3}, {"aa", 7}, {"b", 0}, {"c", -1}, {"d", math.MinInt}, {"é", math.MaxInt}, {"\xff", 12}}
	for _, e := range l {
		finds(t, l, e.Name, e.Ino, true)
	}
	for _, name := range []string{
		"", "A", "BB", "\x01", "Z", "a\x01", "ab", "a ", " a", "aaa", "abc", "bb", "b/", "c\x00", "e", "\xc3", "é\x01", "\xff\xff", "\xfe",
		".", "..", "/", "\x00", "abcdefghijklm", strings.Repeat("a", 300), strings.Repeat("\xff", 300),
	} {
		finds(t, l, name, -1, false)
		finds(t, nil, name, -1, false)
		finds(t, []entry.Entry{}, name, -1, false)
	}
	finds(t, list("a"), "a", 1, true)
	finds(t, list("a"), "A", -1, false)
	finds(t, list("a"), "b", -1, false)
}

// P5.2: in lists of each length, each entry, and each name between two.
func TestFindInListsOfEachLength(t *testing.T) {
	for n := range 101 {
		l := long(n)
		for at := range n {
			finds(t, l, fmt.Sprintf("%03d", 2*at), at, true)
			finds(t, l, fmt.Sprintf("%03d", 2*at+1), -1, false)
		}
		finds(t, l, "!", -1, false)
		finds(t, l, "~", -1, false)
	}
}

// P5.2
func TestPutSetsAnEntryInItsPlace(t *testing.T) {
	ac := []entry.Entry{{"a", 1}, {"c", 2}}
	puts(t, ac, entry.Entry{Name: "b", Ino: 3}, []entry.Entry{{"a", 1}, {"b", 3}, {"c", 2}}) // the chapter's example
	puts(t, ac, entry.Entry{Name: "A", Ino: 3}, []entry.Entry{{"A", 3}, {"a", 1}, {"c", 2}})
	puts(t, ac, entry.Entry{Name: "d", Ino: 3}, []entry.Entry{{"a", 1}, {"c", 2}, {"d", 3}})
	puts(t, ac, entry.Entry{Name: "aa", Ino: 3}, []entry.Entry{{"a", 1}, {"aa", 3}, {"c", 2}})
	puts(t, ac, entry.Entry{Name: "é", Ino: 3}, []entry.Entry{{"a", 1}, {"c", 2}, {"é", 3}})
	puts(t, ac, entry.Entry{Name: "b", Ino: 1}, []entry.Entry{{"a", 1}, {"b", 1}, {"c", 2}}) // a node of two names
	puts(t, nil, entry.Entry{Name: "a", Ino: 4}, []entry.Entry{{"a", 4}})
	puts(t, []entry.Entry{}, entry.Entry{Name: "a"}, []entry.Entry{{"a", 0}})
	puts(t, nil, entry.Entry{Name: "\xff", Ino: math.MinInt}, []entry.Entry{{"\xff", math.MinInt}})
	puts(t, nil, entry.Entry{Name: "abcdefghijkl", Ino: math.MaxInt}, []entry.Entry{{"abcdefghijkl", math.MaxInt}})
}

// P5.2
func TestPutTakesThePlaceOfItsName(t *testing.T) {
	abc := list("a", "b", "c")
	puts(t, abc, entry.Entry{Name: "a", Ino: 9}, []entry.Entry{{"a", 9}, {"b", 2}, {"c", 3}})
	puts(t, abc, entry.Entry{Name: "b", Ino: -9}, []entry.Entry{{"a", 1}, {"b", -9}, {"c", 3}})
	puts(t, abc, entry.Entry{Name: "c", Ino: 0}, []entry.Entry{{"a", 1}, {"b", 2}, {"c", 0}})
	puts(t, abc, entry.Entry{Name: "b", Ino: 2}, abc)
	puts(t, list("a"), entry.Entry{Name: "a", Ino: 2}, []entry.Entry{{"a", 2}})
}

// P5.2
func TestDropTakesAnEntryAway(t *testing.T) {
	abc := list("a", "b", "c")
	drops(t, abc, "a", []entry.Entry{{"b", 2}, {"c", 3}})
	drops(t, abc, "b", []entry.Entry{{"a", 1}, {"c", 3}})
	drops(t, abc, "c", []entry.Entry{{"a", 1}, {"b", 2}})
	drops(t, list("a"), "a", nil)
	for _, name := range []string{"", ".", "..", "A", "a\x01", "aa", "bb", "d", "a/", "b\x00", "\xff", "abcdefghijklm", strings.Repeat("b", 300)} {
		drops(t, abc, name, abc)
		drops(t, list("b"), name, list("b"))
		drops(t, nil, name, nil)
		drops(t, []entry.Entry{}, name, nil)
	}
	twins := []entry.Entry{{"a", 5}, {"b", 5}, {"c", 5}} // of one node, the name that is meant
	drops(t, twins, "b", []entry.Entry{{"a", 5}, {"c", 5}})
}

// P5.2
func TestNamesAreToldInOrder(t *testing.T) {
	for _, names := range [][]string{nil, {"a"}, {"a", "b", "c"}, {"B", "a", "aa", "\xff"}, near} {
		if got := entry.Names(list(names...)); !slices.Equal(got, names) {
			t.Errorf("Names = %q, want %q", got, names)
		}
	}
	if got := entry.Names([]entry.Entry{}); len(got) != 0 {
		t.Error(got)
	}
	got := entry.Names(long(100))
	if len(got) != 100 || got[0] != "000" || got[57] != "114" || got[99] != "198" {
		t.Error(got)
	}
}

// P5.2: of each list of some names that are near to each other, with each of
// them, by another way: a map, whose names are sorted.
func TestEachListOfNearNames(t *testing.T) {
	if !entry.Sorted(list(near...)) {
		t.Fatal(near)
	}
	subsets(near, func(l []entry.Entry) {
		if got := entry.Names(l); !slices.Equal(got, slices.Sorted(maps.Keys(toMap(l)))) {
			t.Errorf("Names(%v) = %q", l, got)
		}
		for _, name := range near {
			m := toMap(l)
			ino, is := m[name]
			if !is {
				ino = -1
			}
			finds(t, l, name, ino, is)
			m[name] = 99
			puts(t, l, entry.Entry{Name: name, Ino: 99}, ofMap(m))
			delete(m, name)
			drops(t, l, name, ofMap(m))
		}
	})
}

// P5.2: at each place of lists of each length.
func TestPutAndDropAtEachPlace(t *testing.T) {
	for _, n := range []int{1, 2, 3, 15, 16, 17, 99, 100} {
		l := long(n)
		for at := range n {
			name, next := fmt.Sprintf("%03d", 2*at), fmt.Sprintf("%03d", 2*at+1)
			drops(t, l, name, slices.Delete(slices.Clone(l), at, at+1))
			puts(t, l, entry.Entry{Name: next, Ino: -5}, slices.Insert(slices.Clone(l), at+1, entry.Entry{Name: next, Ino: -5}))
			want := slices.Clone(l)
			want[at].Ino = -5
			puts(t, l, entry.Entry{Name: name, Ino: -5}, want)
		}
		puts(t, l, entry.Entry{Name: "!", Ino: 5}, slices.Insert(slices.Clone(l), 0, entry.Entry{Name: "!", Ino: 5}))
	}
}

// R1: lists that are not sorted, and names that are not legal, end and do not panic.
func TestNothingPanics(t *testing.T) {
	names := []string{"", ".", "..", "/", "a", "b", "c", "\x00", strings.Repeat("x", 300)}
	for n := range 9 * 9 * 9 {
		l := list(names[n%9], names[n/9%9], names[n/81])
		for _, name := range names {
			entry.Sorted(l)
			entry.Find(l, name)
			entry.Put(l, entry.Entry{Name: name, Ino: 1})
			entry.Drop(l, name)
			entry.Names(l)
		}
	}
}

// R4: what is answered has memory of its own, also where nothing changed, and
// where what was handed in has room behind its end.
func TestAnswersShareNothing(t *testing.T) {
	full := list("a", "b", "c", "d")
	for _, size := range []int{2, 4} {
		l := full[:size]
		calls := []func() []entry.Entry{
			func() []entry.Entry { return entry.Put(l, entry.Entry{Name: "0", Ino: 8}) },
			func() []entry.Entry { return entry.Put(l, entry.Entry{Name: "a", Ino: 8}) },
			func() []entry.Entry { return entry.Put(l, entry.Entry{Name: "aa", Ino: 8}) },
			func() []entry.Entry { return entry.Put(l, entry.Entry{Name: "x", Ino: 8}) },
			func() []entry.Entry { return entry.Drop(l, "a") },
			func() []entry.Entry { return entry.Drop(l, "b") },
			func() []entry.Entry { return entry.Drop(l, "x") },
		}
		for at, call := range calls {
			got := call()
			want := slices.Clone(got)
			for i := range got[:cap(got)] {
				got[:cap(got)][i] = entry.Entry{Name: "?", Ino: -7}
			}
			if !slices.Equal(full, list("a", "b", "c", "d")) {
				t.Fatalf("call %d shares what it was handed in: %v", at, full)
			}
			if again := call(); !slices.Equal(again, want) {
				t.Errorf("call %d again: %v, want %v", at, again, want)
			}
		}
	}
}

// P5.3: whatever is put and dropped, in whatever order, just what was put
// last, and not dropped since, is found.
func TestWhatWasPutIsFoundTillItIsDropped(t *testing.T) {
	names := []string{"a", "aa", "b"}
	var run func(depth int, l []entry.Entry, m map[string]int)
	run = func(depth int, l []entry.Entry, m map[string]int) {
		if !entry.Sorted(l) || !slices.Equal(l, ofMap(m)) {
			t.Fatalf("%v, want %v", l, m)
		}
		for _, name := range names {
			ino, is := m[name]
			if !is {
				ino = -1
			}
			finds(t, l, name, ino, is)
		}
		if depth == 0 {
			return
		}
		for _, name := range names {
			more, less := maps.Clone(m), maps.Clone(m)
			more[name] = depth
			delete(less, name)
			run(depth-1, entry.Put(l, entry.Entry{Name: name, Ino: depth}), more)
			run(depth-1, entry.Drop(l, name), less)
		}
	}
	run(5, nil, map[string]int{})
}

// P5.3: a drop undoes a put of what was not there, a put a drop of what was,
// and the last of two puts holds.
func TestPutAndDropUndoEachOther(t *testing.T) {
	subsets(near, func(l []entry.Entry) {
		for _, name := range near {
			put := entry.Put(l, entry.Entry{Name: name, Ino: 77})
			finds(t, put, name, 77, true)
			finds(t, entry.Put(put, entry.Entry{Name: name, Ino: 78}), name, 78, true)
			finds(t, entry.Drop(put, name), name, -1, false)
			for _, other := range near {
				if ino, is := entry.Find(l, other); other != name {
					finds(t, put, other, ino, is)
					finds(t, entry.Drop(l, name), other, ino, is)
				}
			}
			if ino, is := entry.Find(l, name); is {
				puts(t, entry.Drop(l, name), entry.Entry{Name: name, Ino: ino}, l)
				puts(t, l, entry.Entry{Name: name, Ino: ino}, l)
			} else {
				drops(t, put, name, l)
			}
			if !entry.Sorted(put) || !entry.Sorted(entry.Drop(put, name)) {
				t.Errorf("of %v and %q what is not sorted", l, name)
			}
		}
	})
}

// P5.3: a long run of puts and drops, in a mixed order.
func TestALongRun(t *testing.T) {
	var l []entry.Entry
	m := map[string]int{}
	state := uint32(1)
	for turn := range 5000 {
		state = state*1664525 + 1013904223
		name := fmt.Sprint(state >> 16 % 150)
		if state>>30 == 0 {
			l = entry.Drop(l, name)
			delete(m, name)
		} else {
			l = entry.Put(l, entry.Entry{Name: name, Ino: turn})
			m[name] = turn
		}
		if ino, is := m[name]; is {
			finds(t, l, name, ino, true)
		} else {
			finds(t, l, name, -1, false)
		}
	}
	if !entry.Sorted(l) || !slices.Equal(l, ofMap(m)) {
		t.Errorf("%v, want %v", l, m)
	}
}
