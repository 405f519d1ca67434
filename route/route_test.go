package route_test

import (
	"slices"
	"strings"
	"testing"

	"flagstone/api"
	"flagstone/route"
)

// A path, and what each call says of it.
type row struct {
	path       string
	parts      []string
	abs, slash bool
	base, dir  string
	ups        []string
}

var rows = []row{
	{"", nil, false, false, "", ".", nil},
	{"/", nil, true, true, "/", "/", nil},
	{"//", nil, true, true, "/", "/", nil},
	{"/////", nil, true, true, "/", "/", nil},
	{"a", []string{"a"}, false, false, "a", ".", []string{"a"}},
	{"a/", []string{"a"}, false, true, "a", ".", []string{"a"}},
	{"a///", []string{"a"}, false, true, "a", ".", []string{"a"}},
	{"/a", []string{"a"}, true, false, "a", "/", []string{"/a"}},
	{"///a", []string{"a"}, true, false, "a", "/", []string{"///a"}},
	{"///a//", []string{"a"}, true, true, "a", "/", []string{"///a"}},
	{"a/b", []string{"a", "b"}, false, false, "b", "a", []string{"a", "a/b"}},
	{"a//b", []string{"a", "b"}, false, false, "b", "a", []string{"a", "a//b"}},
	{"/a/b", []string{"a", "b"}, true, false, "b", "/a", []string{"/a", "/a/b"}},
	{"/a//b/", []string{"a", "b"}, true, true, "b", "/a", []string{"/a", "/a//b"}},
	{"//a///b////c/////", []string{"a", "b", "c"}, true, true, "c", "//a///b", []string{"//a", "//a///b", "//a///b////c"}},
	{"abc/def/ghi", []string{"abc", "def", "ghi"}, false, false, "ghi", "abc/def", []string{"abc", "abc/def", "abc/def/ghi"}},
	{".", []string{"."}, false, false, ".", ".", []string{"."}},
	{"..", []string{".."}, false, false, "..", ".", []string{".."}},
	{"./..", []string{".", ".."}, false, false, "..", ".", []string{".", "./.."}},
	{"/../", []string{".."}, true, true, "..", "/", []string{"/.."}},
	{"\x00", []string{"\x00"}, false, false, "\x00", ".", []string{"\x00"}},
	{"a\x00b/\x00", []string{"a\x00b", "\x00"}, false, false, "\x00", "a\x00b", []string{"a\x00b", "a\x00b/\x00"}},
	{"\xff/\xc3", []string{"\xff", "\xc3"}, false, false, "\xc3", "\xff", []string{"\xff", "\xff/\xc3"}},
	{"é/ö", []string{"é", "ö"}, false, false, "ö", "é", []string{"é", "é/ö"}},
	{" / ", []string{" ", " "}, false, false, " ", " ", []string{" ", " / "}},
	{`a\b`, []string{`a\b`}, false, false, `a\b`, ".", []string{`a\b`}},
}

// P1.1
func TestSplitTellsPartsAndBothEnds(t *testing.T) {
	for _, r := range rows {
		parts, abs, slash := route.Split(r.path)
		if !slices.Equal(parts, r.parts) || abs != r.abs || slash != r.slash {
			t.Errorf("Split(%q) = %q, %v, %v; want %q, %v, %v", r.path, parts, abs, slash, r.parts, r.abs, r.slash)
		}
	}
}

// P1.1: what is too long is told in its parts all the same.
func TestSplitTakesWhatCheckRefuses(t *testing.T) {
	long := strings.Repeat("x", 300)
	parts, abs, slash := route.Split("/" + long + "/" + long)
	if !slices.Equal(parts, []string{long, long}) || !abs || slash {
		t.Errorf("%d parts, %v, %v", len(parts), abs, slash)
	}
}

// P1.1
func TestCheckTellsWhatIsWrongFirst(t *testing.T) {
	twelve, thirteen := "abcdefghijkl", "abcdefghijklm"
	six := "äöüéèà" // 6 signs, 12 bytes
	for _, c := range []struct {
		name, path string
		want       api.Errno
	}{
		{"empty", "", api.ErrNone},
		{"one part", "a", api.OK},
		{"a slash alone", "/", api.OK},
		{"100 slashes", strings.Repeat("/", 100), api.OK},
		{"101 slashes", strings.Repeat("/", 101), api.ErrLong},
		{"dots", "./../.", api.OK},
		{"no text of signs", "\xff\xfe/\x80", api.OK},
		{"part of 12", twelve, api.OK},
		{"part of 13", thirteen, api.ErrLong},
		{"parts of 12", "/" + twelve + "/" + twelve + "/", api.OK},
		{"first part of 13", thirteen + "/a", api.ErrLong},
		{"part of 13 between others", "/a/" + thirteen + "/b", api.ErrLong},
		{"last part of 13", "a/" + thirteen, api.ErrLong},
		{"part of 13 ahead of a slash", "a/" + thirteen + "/", api.ErrLong},
		{"bytes count, not signs: 12", six, api.OK},
		{"bytes count, not signs: 13", six + "x", api.ErrLong},
		{"path of 100", strings.Repeat("a/", 50), api.OK},
		{"path of 101", strings.Repeat("a/", 50) + "a", api.ErrLong},
		{"path of 101 that ends with a slash", strings.Repeat("a/", 50) + "/", api.ErrLong},
		{"path of 300", strings.Repeat("ab/", 100), api.ErrLong},
		{"byte 0 alone", "\x00", api.ErrArg},
		{"byte 0 at first", "\x00a", api.ErrArg},
		{"byte 0 within", "a/b\x00c/d", api.ErrArg},
		{"byte 0 at last", "a/b\x00", api.ErrArg},
		{"byte 0 in a path of 100", strings.Repeat("a/", 49) + "a\x00", api.ErrArg},
		{"byte 0 in a path of 101", strings.Repeat("a/", 50) + "\x00", api.ErrLong},
		{"byte 0 behind a part of 13", thirteen + "/\x00", api.ErrArg},
		{"byte 0 in a part of 13", thirteen[1:] + "\x00", api.ErrArg},
		{"part of 101", strings.Repeat("a", 101), api.ErrLong},
	} {
		if e := route.Check(c.path); e != c.want {
			t.Errorf("%s: Check(%q) = %d, want %d", c.name, c.path, e, c.want)
		}
	}
}

// P1.2
func TestBaseAndDirTellBothSidesOfTheLastPart(t *testing.T) {
	for _, r := range rows {
		if base := route.Base(r.path); base != r.base {
			t.Errorf("Base(%q) = %q, want %q", r.path, base, r.base)
		}
		if dir := route.Dir(r.path); dir != r.dir {
			t.Errorf("Dir(%q) = %q, want %q", r.path, dir, r.dir)
		}
	}
}

// P1.3
func TestJoinPutsOneSlashBetweenAtMost(t *testing.T) {
	for _, c := range []struct{ a, b, want string }{
		{"", "", ""},
		{"", "b", "b"},
		{"", "/", "/"},
		{"", "b/", "b/"},
		{"a", "", "a"},
		{"a/", "", "a/"},
		{"/", "", "/"},
		{"//", "", "//"},
		{"a", "b", "a/b"},
		{"a/", "b", "a/b"},
		{"a//", "b", "a//b"},
		{"/", "b", "/b"},
		{"//", "b", "//b"},
		{"/a", "b/c/", "/a/b/c/"},
		{"a", "/", "/"},
		{"a", "/b", "/b"},
		{"a/", "/b", "/b"},
		{"a", "//b", "//b"},
		{"/", "/", "/"},
		{".", "..", "./.."},
		{"a\x00", "\x00b", "a\x00/\x00b"},
		{"\xff", "\xfe", "\xff/\xfe"},
	} {
		if s := route.Join(c.a, c.b); s != c.want {
			t.Errorf("Join(%q, %q) = %q, want %q", c.a, c.b, s, c.want)
		}
	}
}

// P1.3
func TestUpsTellThePathUpToEachPart(t *testing.T) {
	for _, r := range rows {
		if ups := route.Ups(r.path); !slices.Equal(ups, r.ups) {
			t.Errorf("Ups(%q) = %q, want %q", r.path, ups, r.ups)
		}
	}
}

// eachPath hands over all texts of the bytes of alphabet, up to size of them.
func eachPath(alphabet string, size int, see func(string)) {
	see("")
	last := []string{""}
	for range size {
		var next []string
		for _, p := range last {
			for i := range len(alphabet) {
				next = append(next, p+alphabet[i:i+1])
			}
		}
		for _, p := range next {
			see(p)
		}
		last = next
	}
}

// P1.4
func TestDirAndBaseJoinedHaveThePathsParts(t *testing.T) {
	eachPath("/.a\x00\xff", 6, func(p string) {
		parts, abs, _ := route.Split(p)
		if len(parts) < 2 {
			return
		}
		dir, base := route.Dir(p), route.Base(p)
		got, rooted, slash := route.Split(route.Join(dir, base))
		if !slices.Equal(got, parts) || rooted != abs || slash {
			t.Errorf("%q: Join(%q, %q) has %q", p, dir, base, got)
		}
		if ahead, _, _ := route.Split(dir); !slices.Equal(ahead, parts[:len(parts)-1]) {
			t.Errorf("%q: Dir %q has %q", p, dir, ahead)
		}
	})
}

// P1.1 to P1.3, of all short paths, by another way: the library's own cutting at each slash.
func TestShortPathsAgreeWithPlainCutting(t *testing.T) {
	eachPath("/.a\x00", 6, func(p string) {
		want := slices.DeleteFunc(strings.Split(p, "/"), func(s string) bool { return s == "" })
		parts, abs, slash := route.Split(p)
		if !slices.Equal(parts, want) || abs != (p != "" && p[0] == '/') || slash != (p != "" && p[len(p)-1] == '/') {
			t.Errorf("Split(%q) = %q, %v, %v", p, parts, abs, slash)
		}
		ups := route.Ups(p)
		if len(ups) != len(want) {
			t.Fatalf("Ups(%q) = %q", p, ups)
		}
		for i, up := range ups {
			l, _, open := route.Split(up)
			if !strings.HasPrefix(p, up) || open || !slices.Equal(l, want[:i+1]) {
				t.Errorf("Ups(%q)[%d] = %q", p, i, up)
			}
		}
		if len(want) == 0 {
			return
		}
		base, dir := route.Base(p), route.Dir(p)
		if base != want[len(want)-1] {
			t.Errorf("Base(%q) = %q", p, base)
		}
		if len(want) > 1 && dir != ups[len(ups)-2] {
			t.Errorf("Dir(%q) = %q", p, dir)
		}
	})
}

// R1: a call ends, and tells all, of what is far longer than a path may be.
func TestLongTextsAreTakenWhole(t *testing.T) {
	long := strings.Repeat("/ab", 100000)
	parts, abs, slash := route.Split(long)
	if len(parts) != 100000 || !abs || slash || route.Base(long) != "ab" || len(route.Dir(long)) != len(long)-3 || len(route.Ups(long)) != 100000 || route.Check(long) != api.ErrLong {
		t.Errorf("%d parts, %v, %v", len(parts), abs, slash)
	}
}
