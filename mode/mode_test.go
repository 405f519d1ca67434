package mode_test

import (
	"fmt"
	"math"
	"strings"
	"testing"

	"flagstone/mode"
)

// The rights are constants without a type, so that they can be held against any number.
const (
	_ int8    = mode.Read
	_ uint64  = mode.Write
	_ float64 = mode.Exec
)

// Numbers that are no mode, each with the one that its lowest six bits are.
var beyond = map[int]int{
	64:                0,
	65:                1,
	64 + 9:            9,
	127:               63,
	128 + 52:          52,
	0o777:             63,
	0o644:             36,
	1 << 32:           0,
	1<<32 + 7:         7,
	1<<62 + 56:        56,
	math.MaxInt:       63,
	math.MaxInt - 1:   62,
	-1:                63,
	-2:                62,
	-12:               52,
	-63:               1,
	-64:               0,
	-65:               63,
	math.MinInt:       0,
	math.MinInt + 18:  18,
	-(1 << 32) + 0o52: 0o52,
}

// eachMode hands over all modes, as they are and as the lowest bits of other
// numbers, each with the mode that it is.
func eachMode(see func(m, is int)) {
	for is := range 64 {
		for _, above := range []int{0, 64, 128, -64, -128, 1 << 32, math.MaxInt - 63, math.MinInt} {
			see(above+is, is)
		}
	}
	for m, is := range beyond {
		see(m, is)
	}
}

func refuses(t *testing.T, s string) {
	t.Helper()
	if m, is := mode.Parse(s); m != 0 || is {
		t.Errorf("Parse(%q) = %d, %v", s, m, is)
	}
}

func TestRightsAreTheirBits(t *testing.T) {
	if mode.Read != 4 || mode.Write != 2 || mode.Exec != 1 {
		t.Error(mode.Read, mode.Write, mode.Exec)
	}
}

// P4.1
func TestParseTakesOneOrTwoOctalDigits(t *testing.T) {
	for s, want := range map[string]int{
		"0": 0, "1": 1, "7": 7,
		"00": 0, "01": 1, "07": 7, "10": 8, "11": 9, "17": 15, "22": 18, "64": 52, "70": 56, "77": 63,
	} {
		if m, is := mode.Parse(s); m != want || !is {
			t.Errorf("Parse(%q) = %d, %v; want %d", s, m, is, want)
		}
	}
}

// P4.1: of each text of one or two bytes.
func TestParseOfShortTexts(t *testing.T) {
	octal := func(b int) bool { return b >= '0' && b <= '7' }
	for a := range 256 {
		one := string([]byte{byte(a)})
		if !octal(a) {
			refuses(t, one)
		} else if m, is := mode.Parse(one); m != a-'0' || !is {
			t.Errorf("Parse(%q) = %d, %v", one, m, is)
		}
		for b := range 256 {
			two := string([]byte{byte(a), byte(b)})
			if !octal(a) || !octal(b) {
				refuses(t, two)
			} else if m, is := mode.Parse(two); m != (a-'0')*8+b-'0' || !is {
				t.Errorf("Parse(%q) = %d, %v", two, m, is)
			}
		}
	}
}

// P4.1
func TestParseRefusesAllOtherTexts(t *testing.T) {
	for _, s := range []string{
		"", "8", "9", "08", "80", "78", "87", "99",
		"000", "007", "077", "644", "777", "0644", "0o7", "0o77", "0x7",
		"-", "-0", "-1", "-7", "+7", "--", "-07", "+77",
		" ", " 7", "7 ", " 77", "77 ", "7 7", "7\n", "77\n", "\t7", "7\x00", "77\x00", "\x007",
		"a", "7a", "a7", "r", "rw", "rwx", "rw-r--", "rwxrwx", "7.", ".7", "7_7", "7e",
		"é", "\xff", "7\xff", "\xff7",
		"٧", "７", "７７", "7٧", "²", // digits of other scripts
		strings.Repeat("0", 300), strings.Repeat("7", 300), strings.Repeat("0", 298) + "64", "64" + strings.Repeat(" ", 298),
	} {
		refuses(t, s)
	}
	for n := range 512 {
		refuses(t, fmt.Sprintf("%03o", n))
	}
}

// P4.1
func TestPrintTellsBothDigits(t *testing.T) {
	for m, want := range map[int]string{0: "00", 1: "01", 7: "07", 8: "10", 9: "11", 18: "22", 52: "64", 56: "70", 63: "77", 64: "00", 0o644: "44", -1: "77", -12: "64"} {
		if s := mode.Print(m); s != want {
			t.Errorf("Print(%d) = %q, want %q", m, s, want)
		}
	}
	eachMode(func(m, is int) {
		if s := mode.Print(m); s != fmt.Sprintf("%02o", is) {
			t.Errorf("Print(%d) = %q, want that of %d", m, s, is)
		}
	})
}

// P4.1
func TestTextTellsARightInItsPlace(t *testing.T) {
	for m, want := range map[int]string{
		0:      "------",
		1 << 0: "-----x",
		1 << 1: "----w-",
		1 << 2: "---r--",
		1 << 3: "--x---",
		1 << 4: "-w----",
		1 << 5: "r-----",
		52:     "rw-r--", // the chapter's example
		7:      "---rwx",
		9:      "--x--x",
		18:     "-w--w-",
		36:     "r--r--",
		45:     "r-xr-x",
		56:     "rwx---",
		62:     "rwxrw-",
		63:     "rwxrwx",
		64:     "------",
		64 + 9: "--x--x",
		-1:     "rwxrwx",
		-12:    "rw-r--",
	} {
		if s := mode.Text(m); s != want {
			t.Errorf("Text(%d) = %q, want %q", m, s, want)
		}
	}
}

// P4.1: of each mode, by another way: its six binary digits, and the signs of those that are 1.
func TestTextOfEachMode(t *testing.T) {
	eachMode(func(m, is int) {
		want := []byte("rwxrwx")
		for at, bit := range fmt.Sprintf("%06b", is) {
			if bit == '0' {
				want[at] = '-'
			}
		}
		if s := mode.Text(m); s != string(want) {
			t.Errorf("Text(%d) = %q, want %q", m, s, want)
		}
	})
}

// P4.1
func TestWhatIsPrintedIsParsedBack(t *testing.T) {
	texts := map[string]bool{}
	eachMode(func(m, is int) {
		if n, ok := mode.Parse(mode.Print(m)); n != is || !ok {
			t.Errorf("Parse of Print(%d) = %d, %v; want %d", m, n, ok, is)
		}
		texts[mode.Text(m)] = true
	})
	if len(texts) != 64 {
		t.Errorf("%d unlike texts of 64 modes", len(texts))
	}
}

// P4.2
func TestMayAsksTheDigitThatIsMeant(t *testing.T) {
	const all = mode.Read | mode.Write | mode.Exec
	for _, c := range []struct {
		m, owner, who, want int
		may                 bool
	}{
		{0o64, 3, 3, mode.Read, true},
		{0o64, 3, 3, mode.Write, true},
		{0o64, 3, 3, mode.Exec, false},
		{0o64, 3, 3, mode.Read | mode.Write, true},
		{0o64, 3, 3, mode.Read | mode.Exec, false}, // all bits, not just one of them
		{0o64, 3, 3, all, false},
		{0o64, 3, 4, mode.Read, true},
		{0o64, 3, 4, mode.Write, false},
		{0o64, 3, 4, mode.Read | mode.Write, false},
		{0o46, 3, 4, mode.Write, true},
		{0o46, 3, 3, mode.Write, false}, // the others' are not the owner's
		{0o07, 3, 3, mode.Read, false},
		{0o07, 3, 3, mode.Exec, false},
		{0o07, 3, 4, all, true},
		{0o70, 3, 3, all, true},
		{0o70, 3, 4, mode.Exec, false},
		{0o70, 0, 1, mode.Read, false}, // what is 0's is not everyone's
		{0o07, 0, 1, all, true},
		{0o77, 3, 4, all, true},
		{0, 3, 3, 0, true}, // nothing that is wanted lacks
		{0, 3, 4, 0, true},
		{0, 3, 3, mode.Exec, false},
		{0, 3, 4, mode.Exec, false},
		{0, 3, 0, all, true}, // 0 may all
		{0, 0, 0, all, true},
		{0o70, 5, 0, all, true},
		{0o70, -3, -3, all, true}, // who and owner are any numbers
		{0o70, -3, 3, mode.Read, false},
		{0o70, 3, 3 + 64, mode.Read, false},
		{0o70, 3, 3 + 1<<32, mode.Read, false},
		{0, 3, 1 << 32, mode.Read, false},
		{0, 3, 64, mode.Read, false},
		{0o70, math.MaxInt, math.MaxInt, all, true},
		{0o70, math.MinInt, math.MinInt, all, true},
		{0o70, math.MinInt, math.MaxInt, mode.Exec, false},
		{0o07, 3, 4, 8 + 4, true}, // the lowest three bits of want
		{0o04, 3, 4, 8 + 4, true},
		{0o02, 3, 4, 8 + 4, false},
		{0, 3, 4, 8, true},
		{0, 3, 4, -8, true},
		{0, 3, 4, math.MinInt, true},
		{0, 3, 3, 0o70, true},
		{0o77, 3, 4, -1, true},
		{0o76, 3, 4, -1, false},
		{0o76, 3, 4, -2, true},
		{0o77, 3, 4, math.MaxInt, true},
		{0o67, 3, 3, math.MaxInt, false},
		{64, 3, 3, mode.Exec, false}, // the lowest six bits of m
		{64 + 0o10, 3, 3, mode.Exec, true},
		{0o700, 3, 3, mode.Exec, false},
		{0o700, 3, 4, mode.Read, false},
		{-1, 3, 3, all, true},
		{-1, 3, 4, all, true},
		{-8, 3, 3, all, true},
		{-8, 3, 4, mode.Exec, false},
		{math.MinInt, 3, 3, mode.Exec, false},
	} {
		if may := mode.May(c.m, c.owner, c.who, c.want); may != c.may {
			t.Errorf("May(%#o, %d, %d, %d) = %v", c.m, c.owner, c.who, c.want, may)
		}
	}
}

// P4.2: of each mode and each want, by another way: the signs of its text.
func TestMayAgreesWithTheText(t *testing.T) {
	people := []int{0, 1, 2, 7, 64, -1, math.MaxInt, math.MinInt}
	eachMode(func(m, is int) {
		text := mode.Text(m)
		for _, owner := range people {
			for _, who := range people {
				signs := text[3:]
				if owner == who {
					signs = text[:3]
				}
				for want := -9; want < 18; want++ {
					may := who == 0 ||
						(want&4 == 0 || strings.Contains(signs, "r")) &&
							(want&2 == 0 || strings.Contains(signs, "w")) &&
							(want&1 == 0 || strings.Contains(signs, "x"))
					if mode.May(m, owner, who, want) != may {
						t.Errorf("May(%d, %d, %d, %d) = %v, of %q", m, owner, who, want, !may, text)
					}
				}
			}
		}
	})
}

// P4.2
func TestMaskTakesBitsAway(t *testing.T) {
	for _, c := range []struct{ m, umask, want int }{
		{63, 0, 63},
		{63, 18, 45},
		{63, 63, 0},
		{52, 0o22, 0o44},
		{0o64, 0o07, 0o60},
		{0o22, 0o22, 0},
		{0o44, 0o22, 0o44}, // bits that are not there
		{0, 0, 0},
		{0, 63, 0},
		{18, 63 - 18, 18},
		{127, 0, 63}, // the lowest six bits, of both
		{127, 63, 0},
		{64, 0, 0},
		{0o644, 0o22, 0o44},
		{63, 64, 63},
		{63, 64 + 18, 45},
		{63, -1, 0},
		{63, -64, 63},
		{63, -64 + 18, 45},
		{-1, 0, 63},
		{-1, -1, 0},
		{-12, 4, 48},
		{math.MaxInt, 0, 63},
		{math.MaxInt, math.MaxInt, 0},
		{math.MaxInt, math.MinInt, 63},
		{math.MinInt, 0, 0},
		{math.MinInt, math.MaxInt, 0},
	} {
		if m := mode.Mask(c.m, c.umask); m != c.want {
			t.Errorf("Mask(%d, %d) = %d, want %d", c.m, c.umask, m, c.want)
		}
	}
}

// P4.2: of each two modes, bit by bit of their texts.
func TestMaskOfEachTwoModes(t *testing.T) {
	eachMode(func(m, _ int) {
		have := mode.Text(m)
		eachMode(func(umask, _ int) {
			n := mode.Mask(m, umask)
			if n < 0 || n > 63 {
				t.Fatalf("Mask(%d, %d) = %d", m, umask, n)
			}
			left, gone := mode.Text(n), mode.Text(umask)
			for at := range len(have) {
				want := have[at]
				if gone[at] != '-' {
					want = '-'
				}
				if left[at] != want {
					t.Fatalf("Mask(%d, %d): %q without %q is %q", m, umask, have, gone, left)
				}
			}
		})
	})
}

// P4.3
func TestMoreBitsNeverAllowLess(t *testing.T) {
	for m := range 64 {
		for more := range 64 {
			for want := range 8 {
				for who := range 3 {
					const owner = 1
					if !mode.May(m, owner, who, want) {
						continue
					}
					if !mode.May(m|more, owner, who, want) {
						t.Errorf("of mode %#o %d may %d, of %#o not", m, who, want, m|more)
					}
					if !mode.May(m, owner, who, want&more) {
						t.Errorf("of mode %#o %d may %d, but not %d", m, who, want, want&more)
					}
				}
			}
		}
	}
}

// P4.3, as a mode that is masked allows nothing that it did not.
func TestMaskNeverAllowsMore(t *testing.T) {
	for m := range 64 {
		for umask := range 64 {
			for want := range 8 {
				for who := range 3 {
					if mode.May(mode.Mask(m, umask), 1, who, want) && !mode.May(m, 1, who, want) {
						t.Errorf("of mode %#o %d may not %d, but without %#o", m, who, want, umask)
					}
				}
			}
		}
	}
}

// P4.3
func TestZeroMayAll(t *testing.T) {
	eachMode(func(m, _ int) {
		for _, owner := range []int{0, 1, -1, math.MaxInt, math.MinInt} {
			for want := range 64 {
				if !mode.May(m, owner, 0, want) || !mode.May(m, owner, 0, -want) {
					t.Errorf("May(%d, %d, 0, %d)", m, owner, want)
				}
			}
		}
	})
}
