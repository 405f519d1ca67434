package stencil_test

import (
	"math"
	"slices"
	"strings"
	"testing"

	"flagstone/api"
	"flagstone/stencil"
)

const alphabet = "abcdefghijklmnopqrstuvwxyz0123456789"

// P2.1
func TestCountTellsTheBlanksAtTheEnd(t *testing.T) {
	for _, c := range []struct {
		text string
		want int
	}{
		{"", 0},
		{"a", 0},
		{"X", 1},
		{"XX", 2},
		{"XXX", 3},
		{"XXXX", 4},
		{"aX", 1},
		{"aXX", 2},
		{"aXXX", 3},
		{"XXXa", 0},
		{"XXX/", 0},
		{"XXX ", 0},
		{"XXX\x00", 0},
		{"XXX\n", 0},
		{"XXXaX", 1},
		{"XXaXXX", 3},
		{"a/bXXX", 3},
		{"XXX/XXXX", 4},
		{"xxx", 0},
		{"aXXx", 0},
		{"\x00XXX", 3},
		{"\xffXXX", 3},
		{"\xc3XXX", 3},     // a sign's first byte, and no more of it
		{"\xe2\x82XXX", 3}, // two bytes of a sign of three
		{"\xf0\x9f\x98XXX", 3},
		{"\x80XXX", 3},
		{"XXX\xff", 0},
		{"XXX\xc3", 0},
		{"éXX", 2},
		{"XXé", 0},
		{"XXXX\u0301", 0}, // a mark that stands over the sign ahead of it
		{"ⅩⅩⅩ", 0},        // signs that look like it
		{"ХХХ", 0},
		{"ŘŘŘ", 0}, // signs of the number of X, modulo 256
		{strings.Repeat("X", 300), 300},
		{strings.Repeat("X", 299) + "a", 0},
	} {
		if n := stencil.Count(c.text); n != c.want {
			t.Errorf("Count(%q) = %d, want %d", c.text, n, c.want)
		}
	}
}

// P2.1
func TestCheckAsksForThreeBlanks(t *testing.T) {
	for text, want := range map[string]api.Errno{
		"":                               api.ErrArg,
		"a":                              api.ErrArg,
		"X":                              api.ErrArg,
		"XX":                             api.ErrArg,
		"XXX":                            api.OK,
		"XXXX":                           api.OK,
		"aXX":                            api.ErrArg,
		"aXXX":                           api.OK,
		"XXXXa":                          api.ErrArg,
		"XXXXaXX":                        api.ErrArg,
		"XaXXX":                          api.OK,
		"xxx":                            api.ErrArg,
		"\x00XXX":                        api.OK, // whether it is a path is not asked here
		"\xffXXX":                        api.OK,
		"XXX\xff":                        api.ErrArg,
		"///XXX":                         api.OK,
		strings.Repeat("X", 300):         api.OK,
		strings.Repeat("a", 297) + "XXX": api.OK,
	} {
		if e := stencil.Check(text); e != want {
			t.Errorf("Check(%q) = %d, want %d", text, e, want)
		}
	}
}

// P2.1
func TestLetterGoesRoundBothWays(t *testing.T) {
	for n, want := range map[int]string{
		0: "a", 1: "b", 25: "z", 26: "0", 27: "1", 34: "8", 35: "9",
		36: "a", 37: "b", 71: "9", 72: "a", 36000001: "b",
		-1: "9", -2: "8", -9: "1", -10: "0", -11: "z", -35: "b", -36: "a", -37: "9", -72: "a", -73: "9",
		math.MaxInt:     "h", // 2^63 - 1 is 7 more than a multiple of 36
		math.MaxInt - 1: "g",
		math.MinInt:     "2", // -2^63 is 28 more than one
		math.MinInt + 1: "3",
	} {
		if s := stencil.Letter(n); s != want {
			t.Errorf("Letter(%d) = %q, want %q", n, s, want)
		}
	}
}

// P2.1
func TestLetterOfEachPlaceInOrder(t *testing.T) {
	for n := -3 * 36; n < 3*36; n++ {
		at := (n + 36*100) % 36
		if s := stencil.Letter(n); s != alphabet[at:at+1] {
			t.Errorf("Letter(%d) = %q, want %q", n, s, alphabet[at:at+1])
		}
	}
}

// P2.2
func TestMakeTurnsTheBlanksAtTheEnd(t *testing.T) {
	for _, c := range []struct {
		text  string
		draws []int
		want  string
	}{
		{"aXXX", []int{0, 27, 35}, "aa19"},
		{"XXX", []int{0, 1, 2}, "abc"},
		{"XXX", []int{2, 1, 0}, "cba"},
		{"XXX", []int{36, 37, 38}, "abc"},
		{"XXX", []int{-1, -36, -37}, "9a9"},
		{"XXX", []int{math.MinInt, math.MaxInt, 0}, "2ha"},
		{"XXX", nil, "aaa"},
		{"XXX", []int{}, "aaa"},
		{"XXX", []int{5}, "faa"},
		{"XXX", []int{5, 6}, "fga"},
		{"XXX", []int{1, 2, 3, 4, 5}, "bcd"},
		{"X", []int{7, 8}, "h"},
		{"aX", []int{7}, "ah"},
		{"aXX", nil, "aaa"},
		{"XaXX", []int{1, 2}, "Xabc"},
		{"XXXaX", []int{1, 2}, "XXXab"},
		{"XXX/XXX", []int{1, 2, 3}, "XXX/bcd"},
		{"", []int{1}, ""},
		{"", nil, ""},
		{"abc", []int{5}, "abc"},
		{"XXXa", []int{5}, "XXXa"},
		{"xxx", []int{5}, "xxx"},
		{"\x00XXX", []int{5}, "\x00faa"},
		{"\xffXXX", []int{5, 6, 7}, "\xfffgh"},
		{"\xe2\x82XX", []int{5, 6}, "\xe2\x82fg"},
		{"éXX", []int{5, 6}, "éfg"},
		{"XXé", []int{5, 6}, "XXé"},
		{"XX\xc3", []int{5, 6}, "XX\xc3"},
	} {
		if s := stencil.Make(c.text, c.draws); s != c.want {
			t.Errorf("Make(%q, %v) = %q, want %q", c.text, c.draws, s, c.want)
		}
	}
}

// R4
func TestMakeLeavesTheDraws(t *testing.T) {
	draws := []int{-1, 40, 3, 99}
	stencil.Make("aXXX", draws)
	if !slices.Equal(draws, []int{-1, 40, 3, 99}) {
		t.Error(draws)
	}
}

// P2.2
func TestFitsTellsWhatCanBeMade(t *testing.T) {
	for _, c := range []struct {
		text, name string
		want       bool
	}{
		{"aXXX", "aaaa", true},
		{"aXXX", "aa19", true},
		{"aXXX", "az09", true},
		{"aXXX", "aaa", false},
		{"aXXX", "aaaaa", false},
		{"aXXX", "", false},
		{"aXXX", "a", false},
		{"aXXX", "baaa", false},
		{"aXXX", "Aaaa", false},
		{"aXXX", "aXXX", false},
		{"aXXX", "aaaX", false},
		{"aXXX", "aXaa", false},
		{"aXXX", "aaaA", false},
		{"aXXX", "aaaZ", false},
		{"aXXX", "aaa`", false}, // the neighbours of the letters
		{"aXXX", "aaa{", false},
		{"aXXX", "aaa/", false},
		{"aXXX", "aaa:", false},
		{"aXXX", "aa-a", false},
		{"aXXX", "aa a", false},
		{"aXXX", "aa\x00a", false},
		{"aXXX", "aa\xffa", false},
		{"aXXX", "aaa\xff", false},
		{"aXXX", "aéa", false}, // as long, in bytes, but no letter
		{"aXXX", "aaé", false},
		{"aXXX", "aaaé", false}, // as many signs
		{"aXXX", "aaaš", false}, // a sign of the number of a, modulo 256
		{"XXX", "abc", true},
		{"XXX", "ab", false},
		{"XaXX", "Xabc", true},
		{"XaXX", "babc", false},
		{"X", "a", true},
		{"X", "X", false},
		{"X", "", false},
		{"", "", true},
		{"", "a", false},
		{"abc", "abc", true},
		{"abc", "abd", false},
		{"abc", "abcd", false},
		{"abc", "ab", false},
		{"XXXa", "XXXa", true},
		{"XXXa", "abca", false},
		{"\xffXXX", "\xffabc", true},
		{"\xffXXX", "\xfeabc", false},
		{"\xffXXX", "\uFFFDabc", false},
		{"\uFFFDX", "\xff\xff\xffa", false}, // the sign that stands for what is none
		{"éXX", "éab", true},
		{"éXX", "ëab", false},
		{"XXX/XXX", "XXX/abc", true},
		{"XXX/XXX", "abc/abc", false},
	} {
		if fits := stencil.Fits(c.text, c.name); fits != c.want {
			t.Errorf("Fits(%q, %q) = %v", c.text, c.name, fits)
		}
	}
}

// P2.2: of each byte, whether it may stand for a blank.
func TestFitsTakesJustTheLetters(t *testing.T) {
	for b := range 256 {
		sign := string([]byte{byte(b)})
		want := strings.Contains(alphabet, sign)
		for _, name := range []string{"." + sign + "aa", ".a" + sign + "a", ".aa" + sign} {
			if fits := stencil.Fits(".XXX", name); fits != want {
				t.Errorf("Fits(.XXX, %q) = %v", name, fits)
			}
		}
	}
}

// texts tells all texts of the bytes of signs, up to size of them.
func texts(signs string, size int) []string {
	all, last := []string{""}, []string{""}
	for range size {
		var next []string
		for _, s := range last {
			for i := range len(signs) {
				next = append(next, s+signs[i:i+1])
			}
		}
		all, last = append(all, next...), next
	}
	return all
}

// P2.2: of short texts, by what the words say: the names that all draws make, and no others.
func TestFitsJustWhatSomeDrawsMake(t *testing.T) {
	short := texts("Xa9\xff", 3)
	for _, text := range short {
		made := map[string]bool{}
		for a := range 36 {
			for b := range 36 {
				for c := range 36 {
					made[stencil.Make(text, []int{a, b, c})] = true
				}
			}
		}
		for _, name := range short {
			if fits := stencil.Fits(text, name); fits != made[name] {
				t.Errorf("Fits(%q, %q) = %v", text, name, fits)
			}
		}
	}
}

// P2.3
func TestWhatIsMadeFits(t *testing.T) {
	draws := [][]int{nil, {0}, {35, 36}, {-1, -36, -37}, {math.MinInt, math.MaxInt, 12, 99}}
	for _, text := range texts("Xa/\xff\xc3", 5) {
		for _, l := range draws {
			name := stencil.Make(text, l)
			if !stencil.Fits(text, name) || len(name) != len(text) || strings.HasSuffix(name, "X") {
				t.Errorf("Make(%q, %v) = %q", text, l, name)
			}
		}
	}
}

// P2.3
func TestUnlikeDrawsMakeUnlikeNames(t *testing.T) {
	seen := map[string][3]int{}
	for n := range 36 * 36 * 36 {
		// the same draws modulo 36, but not as numbers of one range
		draws := [3]int{n%36 - 36, n/36%36 + 72, n / 36 / 36}
		name := stencil.Make("tmpXXX", draws[:])
		if old, ok := seen[name]; ok {
			t.Fatalf("%v and %v both make %q", old, draws, name)
		}
		seen[name] = draws
	}
}

// P2.3, from the other side: draws that are alike modulo 36 make one name.
func TestDrawsThatAreAlikeMakeOneName(t *testing.T) {
	for n := range 36 {
		want := stencil.Make("tXXX", []int{n, n, n})
		if name := stencil.Make("tXXX", []int{n + 36, n - 36, n - 36*1000}); name != want {
			t.Errorf("%d: %q and %q", n, name, want)
		}
	}
}

// R1: a call ends, and tells all, of what is far longer than a name may be.
func TestLongTextsAreTakenWhole(t *testing.T) {
	long := strings.Repeat("X", 100000)
	name := stencil.Make("X/"+long, []int{1, 2})
	if stencil.Count(long) != 100000 || name != "X/bc"+strings.Repeat("a", 99998) || !stencil.Fits("X/"+long, name) || stencil.Fits("X/"+long, name+"a") {
		t.Errorf("%d bytes", len(name))
	}
}
