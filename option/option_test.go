package option_test

import (
	"slices"
	"strings"
	"testing"

	"flagstone/api"
	"flagstone/option"
)

// flags tells a list of flags: of each text, the first byte is the letter, and
// what is behind it the value.
func flags(l ...string) []option.Flag {
	var out []option.Flag
	for _, s := range l {
		out = append(out, option.Flag{Letter: s[0], Value: s[1:]})
	}
	return out
}

func list(l ...string) []string { return l }

// A spec, arguments, and what Parse makes of them.
type row struct {
	spec     string
	argv     []string
	flags    []option.Flag
	operands []string
}

// takes holds Parse against arguments that have no error.
func takes(t *testing.T, rows ...row) {
	t.Helper()
	for _, r := range rows {
		got, operands, e := option.Parse(r.spec, r.argv)
		if e != api.OK || !slices.Equal(got, r.flags) || !slices.Equal(operands, r.operands) {
			t.Errorf("Parse(%q, %q) = %q, %q, %d; want %q, %q", r.spec, r.argv, got, operands, e, r.flags, r.operands)
		}
	}
}

// refuses holds Parse against arguments that have an error: there are no
// flags then, and no operands.
func refuses(t *testing.T, want api.Errno, spec string, argv ...string) {
	t.Helper()
	got, operands, e := option.Parse(spec, argv)
	if e != want || len(got) != 0 || len(operands) != 0 {
		t.Errorf("Parse(%q, %q) = %q, %q, %d; want the error %d, alone", spec, argv, got, operands, e, want)
	}
}

// P3.1
func TestSpecTellsWhichLettersTakeAValue(t *testing.T) {
	takes(t, []row{
		{"p", list("-p", "x"), flags("p"), list("x")},
		{"p:", list("-p", "x"), flags("px"), nil},
		{"pm:", list("-p", "x"), flags("p"), list("x")},
		{"pm:", list("-m", "x"), flags("mx"), nil},
		{"m:p", list("-m", "x", "-p", "y"), flags("mx", "p"), list("y")},
		{"m:p:", list("-m", "x", "-p", "y"), flags("mx", "py"), nil},
		{"p::", list("-p", "x"), flags("px"), nil}, // a mark behind a mark
		{"p::q", list("-p", "x", "-q", "y"), flags("px", "q"), list("y")},
		{"p:::q:", list("-p", "x", "-q", "y"), flags("px", "qy"), nil},
		{":p", list("-p", "x"), flags("p"), list("x")}, // a mark at the beginning
		{"::p", list("-p", "x"), flags("p"), list("x")},
		{":p:", list("-p", "x"), flags("px"), nil},
		{"pp", list("-p", "x"), flags("p"), list("x")}, // a letter that stands there twice
		{"m:m", list("-m", "x"), flags("mx"), nil},
		{"mm:", list("-m", "x"), flags("mx"), nil},
		{"mpm:", list("-m", "x", "-p", "y"), flags("mx", "p"), list("y")},
		{"m:pm", list("-m", "x", "-p", "y"), flags("mx", "p"), list("y")},
		{"pP:", list("-p", "x"), flags("p"), list("x")},
		{"pP:", list("-P", "x"), flags("Px"), nil},
		{"p :", list("-p", "x"), flags("p"), list("x")}, // the letter ahead of the mark is the blank
		{"p :", list("- x"), flags(" x"), nil},
		{"é", list("-é", "x"), flags("\xc3", "\xa9"), list("x")}, // letters are bytes, not signs
		{"é:", list("-é", "x"), flags("\xc3", "\xa9x"), nil},
		{"é:", list("-\xa9\xc3"), flags("\xa9\xc3"), nil},
	}...)
}

// P3.1: a mark is no letter, wherever it stands; and a spec may have none at all.
func TestSpecHasNoMarkAsALetter(t *testing.T) {
	for _, spec := range []string{"", ":", "::", ":::", "p:", "p::", ":p", "pm:", "p::m"} {
		refuses(t, api.ErrOption, spec, "-:")
		refuses(t, api.ErrOption, spec, "-:", "x")
		refuses(t, api.ErrOption, spec, "-::")
		refuses(t, api.ErrOption, spec, "-x")
		takes(t, row{spec, list("x", "-:"), nil, list("x", "-:")})
	}
	takes(t, row{"p:", list("-p:"), flags("p:"), nil}, row{"p:", list("-p", "-:"), flags("p-:"), nil})
}

// P3.1: each byte but the mark can be a letter, of both kinds.
func TestAnyOtherByteIsALetter(t *testing.T) {
	for b := range 256 {
		letter := string([]byte{byte(b)})
		plain, valued := "?!"+letter, "?!"+letter+":"
		if letter == ":" {
			refuses(t, api.ErrOption, plain, "-?"+letter)
			refuses(t, api.ErrOption, valued, "-?"+letter)
			continue
		}
		if letter != "?" { // that one would take the letter as its value
			takes(t, row{valued, list("-?"+letter+"x", "y"), flags("?", letter+"x"), list("y")})
			takes(t, row{valued, list("-?"+letter, "x", "y"), flags("?", letter+"x"), list("y")})
			refuses(t, api.ErrValue, valued, "-?"+letter)
		}
		takes(t, row{plain, list("-?"+letter, "x", "y"), flags("?", letter), list("x", "y")})
	}
}

// P3.2: each byte, as one that is taken of an argument.
func TestJustLettersOfTheSpecAreTaken(t *testing.T) {
	for b := range 256 {
		argv := list("-p" + string([]byte{byte(b)}))
		switch b {
		case 'p':
			takes(t, row{"pm:", argv, flags("p", "p"), nil})
		case 'm':
			refuses(t, api.ErrValue, "pm:", argv...)
		default:
			refuses(t, api.ErrOption, "pm:", argv...)
		}
	}
}

// P3.2
func TestParseEndsWhereOperandsBegin(t *testing.T) {
	takes(t, []row{
		{"pm:", nil, nil, nil},
		{"pm:", list(), nil, nil},
		{"", nil, nil, nil},
		{"", list("a"), nil, list("a")},
		{"pm:", list("a"), nil, list("a")},
		{"pm:", list("a", "b"), nil, list("a", "b")},
		{"pm:", list("a", "-p"), nil, list("a", "-p")},
		{"pm:", list("a", "-x", "-m"), nil, list("a", "-x", "-m")}, // what is behind is not looked at
		{"pm:", list("a", "--", "-p"), nil, list("a", "--", "-p")},
		{"pm:", list("p", "-p"), nil, list("p", "-p")},
		{"pm:", list("p-"), nil, list("p-")},
		{"pm:", list("--"), nil, nil},
		{"pm:", list("--", "-p"), nil, list("-p")},
		{"pm:", list("--", "--"), nil, list("--")},
		{"pm:", list("--", "--", "--"), nil, list("--", "--")},
		{"pm:", list("--", "-"), nil, list("-")},
		{"pm:", list("--", ""), nil, list("")},
		{"pm:", list("--", "-x", "-m"), nil, list("-x", "-m")},
		{"pm:", list("-"), nil, list("-")},
		{"pm:", list("-", "-p"), nil, list("-", "-p")},
		{"pm:", list("-", "--", "-p"), nil, list("-", "--", "-p")},
		{"pm:", list(""), nil, list("")},
		{"pm:", list("", "-p"), nil, list("", "-p")},
		{"pm:", list(" -p"), nil, list(" -p")},
		{"pm:", list("\x00-p"), nil, list("\x00-p")},
		{"pm:", list("\xff"), nil, list("\xff")},
		{"pm:", list("−p"), nil, list("−p")}, // a sign that looks like it
		{"pm:", list("-p", "a"), flags("p"), list("a")},
		{"pm:", list("-p", "-", "-p"), flags("p"), list("-", "-p")},
		{"pm:", list("-p", "--", "-p"), flags("p"), list("-p")},
		{"pm:", list("-p", "--"), flags("p"), nil},
		{"pm:", list("-p", ""), flags("p"), list("")},
		{"pm:", list("-m", "x", "--", "-p"), flags("mx"), list("-p")},
		{"-", list("--", "--"), nil, list("--")}, // also where - is a letter
		{"-:", list("--", "x"), nil, list("x")},
		{"-", list("-", "--"), nil, list("-", "--")},
	}...)
}

// P3.2
func TestParseTakesLettersInOrder(t *testing.T) {
	takes(t, []row{
		{"pq", list("-p"), flags("p"), nil},
		{"pq", list("-q", "-p"), flags("q", "p"), nil},
		{"pq", list("-p", "-p"), flags("p", "p"), nil},
		{"pq", list("-pq"), flags("p", "q"), nil},
		{"pq", list("-qp"), flags("q", "p"), nil},
		{"pq", list("-ppq", "-qqp", "a"), flags("p", "p", "q", "q", "q", "p"), list("a")},
		{"p-q", list("-p-q"), flags("p", "-", "q"), nil},
		{"p-q", list("---"), flags("-", "-"), nil},
		{"p-q", list("--p"), flags("-", "p"), nil},
		{"p-q", list("-p-"), flags("p", "-"), nil},
		{"p-:q", list("--p", "q"), flags("-p"), list("q")},
		{"p-:q", list("---"), flags("--"), nil},
		{"p-:q", list("-p-", "q"), flags("p", "-q"), nil},
	}...)
}

// P3.2
func TestParseTakesValues(t *testing.T) {
	takes(t, []row{
		{"pm:", list("-pm7", "a"), flags("p", "m7"), list("a")}, // the chapter's example
		{"pm:", list("-m7"), flags("m7"), nil},
		{"pm:", list("-m", "7"), flags("m7"), nil},
		{"pm:", list("-m", "7", "a"), flags("m7"), list("a")},
		{"pm:", list("-m7", "a"), flags("m7"), list("a")},
		{"pm:", list("-pm", "7", "a"), flags("p", "m7"), list("a")},
		{"pm:", list("-m", "7", "-p", "a"), flags("m7", "p"), list("a")},
		{"pm:", list("-m7", "-p", "-m8", "-m", "9"), flags("m7", "p", "m8", "m9"), nil},
		{"pm:", list("-mp", "-p"), flags("mp", "p"), nil}, // what is behind is no letter any more
		{"pm:", list("-mm"), flags("mm"), nil},
		{"pm:", list("-mx:", "a"), flags("mx:"), list("a")},
		{"pm:", list("-m-"), flags("m-"), nil},
		{"pm:", list("-m--", "a"), flags("m--"), list("a")},
		{"pm:", list("-m=7"), flags("m=7"), nil},
		{"pm:", list("-m 7"), flags("m 7"), nil},
		{"pm:", list("-m\x00\xff"), flags("m\x00\xff"), nil},
		{"pm:", list("-m", ""), flags("m"), nil}, // the next argument, as it is
		{"pm:", list("-m", "", "a"), flags("m"), list("a")},
		{"pm:", list("-m", "-"), flags("m-"), nil},
		{"pm:", list("-m", "--"), flags("m--"), nil},
		{"pm:", list("-m", "--", "-p"), flags("m--", "p"), nil},
		{"pm:", list("-m", "--", "--", "-p"), flags("m--"), list("-p")},
		{"pm:", list("-m", "-p"), flags("m-p"), nil},
		{"pm:", list("-m", "-p", "-p"), flags("m-p", "p"), nil},
		{"pm:", list("-m", "-m"), flags("m-m"), nil},
		{"pm:", list("-m", "-m", "-m", "-m"), flags("m-m", "m-m"), nil},
		{"pm:", list("-m", "-x"), flags("m-x"), nil},
		{"pm:", list("-m", " 7 "), flags("m 7 "), nil},
		{"pm:", list("-m", "\x00\xff"), flags("m\x00\xff"), nil},
		{"m:n:", list("-mn", "x"), flags("mn"), list("x")},
		{"m:n:", list("-m", "-n", "x"), flags("m-n"), list("x")},
		{"m:n:", list("-n", "x", "-m", "y", "z"), flags("nx", "my"), list("z")},
	}...)
}

// P3.2
func TestParseRefuses(t *testing.T) {
	for _, argv := range [][]string{
		{"-x"}, {"-px"}, {"-xp"}, {"-P"}, {"-M"}, {"-p-"}, {"--p"}, {"---"}, {"-p:"}, {"-p p"}, {"- "}, {"-\x00"}, {"-\xff"}, {"-é"}, {"-0"},
		{"-p", "-x"}, {"-m", "7", "-x"}, {"-m7", "-x"}, {"-m", "-x", "-x"}, {"-p", "-x", "a"}, {"-x", "--"}, {"-x", "a"},
		{"-x", "-m"}, {"-xm"}, {"-p", "-xm"}, {"-px", "-pm"}, // and a value lacks, behind it
	} {
		refuses(t, api.ErrOption, "pm:", argv...)
	}
	for _, argv := range [][]string{
		{"-m"}, {"-pm"}, {"-ppm"}, {"-p", "-m"}, {"-m", "7", "-m"}, {"-m", "-m", "-m"}, {"-m7", "-pm"}, {"-m", "", "-m"}, {"-m", "--", "-m"},
	} {
		refuses(t, api.ErrValue, "pm:", argv...)
	}
	refuses(t, api.ErrOption, "", "-p")
	refuses(t, api.ErrOption, "", "-p", "--")
	refuses(t, api.ErrOption, "q", "-p")
	refuses(t, api.ErrValue, "m:n:", "-mn", "-n")
}

// R4, and that an answer is new memory.
func TestParseLeavesTheArguments(t *testing.T) {
	whole := list("-p", "-m", "7", "a", "b", "c")
	_, operands, _ := option.Parse("pm:", whole[:5])
	if !slices.Equal(operands, list("a", "b")) {
		t.Fatal(operands)
	}
	operands[0] = "z"
	_ = append(operands, "y")
	if !slices.Equal(whole, list("-p", "-m", "7", "a", "b", "c")) {
		t.Error(whole)
	}
}

// P3.3
func TestHasAndValue(t *testing.T) {
	for _, c := range []struct {
		l      []option.Flag
		letter byte
		value  string
		is     bool
	}{
		{nil, 'p', "", false},
		{flags(), 0, "", false},
		{flags("p"), 'p', "", true},
		{flags("p"), 'q', "", false},
		{flags("p"), 'P', "", false},
		{flags("p"), 0, "", false},
		{flags("mp"), 'p', "", false}, // what is in a value is no letter
		{flags("mp", "p"), 'p', "", true},
		{flags("mp", "p"), 'm', "p", true},
		{flags("ma", "p", "mb"), 'm', "b", true},
		{flags("mb", "p", "ma"), 'm', "a", true},
		{flags("ma", "mb", "p"), 'm', "b", true},
		{flags("ma", "nb"), 'm', "a", true},
		{flags("nb", "ma"), 'm', "a", true},
		{flags("ma", "m"), 'm', "", true}, // the last one, though it is empty
		{flags("m", "ma"), 'm', "a", true},
		{flags("ma", "nb", "mc", "nd"), 'n', "d", true},
		{flags("ma", "nb", "mc", "nd"), 'x', "", false},
		{flags("\x00a"), 0, "a", true},
		{flags("\xffa", "\x7fb"), 0xff, "a", true},
		{flags(":a"), ':', "a", true}, // also what Parse does not tell
		{flags("-a"), '-', "a", true},
		{flags("m\x00\xff:"), 'm', "\x00\xff:", true},
	} {
		value, is := option.Value(c.l, c.letter)
		if value != c.value || is != c.is {
			t.Errorf("Value(%q, %q) = %q, %v; want %q, %v", c.l, c.letter, value, is, c.value, c.is)
		}
		if has := option.Has(c.l, c.letter); has != c.is {
			t.Errorf("Has(%q, %q) = %v", c.l, c.letter, has)
		}
	}
}

// P3.3: of each letter, among flags of all of them.
func TestHasAndValueOfEachByte(t *testing.T) {
	var even []option.Flag
	for b := 0; b < 256; b += 2 {
		letter := string([]byte{byte(b)})
		even = append(even, flags(letter+"old", letter+letter)...)
	}
	for b := range 256 {
		want := string([]byte{byte(b)})
		if b%2 != 0 {
			want = ""
		}
		value, is := option.Value(even, byte(b))
		if value != want || is != (want != "") || option.Has(even, byte(b)) != is {
			t.Errorf("Value(.., %d) = %q, %v", b, value, is)
		}
	}
}

// tellings tells the ways to tell a flag by itself, as one argument or two. A
// letter - without anything behind it could not be told so: that is `--`.
func tellings(valued bool, f option.Flag) [][]string {
	alone := "-" + string([]byte{f.Letter})
	switch {
	case !valued:
		return [][]string{{alone}}
	case f.Value == "":
		return [][]string{{alone, ""}}
	case f.Letter == '-':
		return [][]string{{alone + f.Value}}
	}
	return [][]string{{alone, f.Value}, {alone + f.Value}}
}

// P3.4
func TestFlagsThatAreToldAreParsedBack(t *testing.T) {
	const spec = "p:\x00m:\xff:-:"
	kinds := flags("\x00", "p7", "p", "p--", "p-", "p-m", "m", "m\x00\xff", "ma b", "\xff:", "--", "-x")
	behind := [][]string{nil, {""}, {"-"}, {"--"}, {"a"}, {"-p"}, {"-x"}, {"a", "--", "-m"}, {"--", "--"}, {"-m", "-m"}}
	var each func(told []option.Flag, argv []string, left int)
	each = func(told []option.Flag, argv []string, left int) {
		for _, operands := range behind {
			takes(t, row{spec, slices.Concat(argv, list("--"), operands), told, operands})
		}
		if left == 0 {
			return
		}
		for _, f := range kinds {
			for _, form := range tellings(f.Letter != 0, f) {
				each(slices.Concat(told, []option.Flag{f}), slices.Concat(argv, form), left-1)
			}
		}
	}
	each(nil, nil, 3)
}

// P3.4, as the letters of one argument tell what they tell one by one.
func TestLettersTogetherAreAsOneByOne(t *testing.T) {
	for _, group := range []string{"p", "q", "pq", "qqp", "pm7", "m", "pqmx", "mpq", "px", "x", "p:", "pm-", "p\xff"} {
		var apart []string
		for at := 0; at < len(group); at++ {
			apart = append(apart, "-"+group[at:at+1])
			if group[at] == 'm' {
				if at+1 < len(group) {
					apart = append(apart, group[at+1:])
				}
				break
			}
		}
		want, operands, e := option.Parse("pqm:", slices.Concat(apart, list("--", "a")))
		got, others, f := option.Parse("pqm:", list("-"+group, "--", "a"))
		if !slices.Equal(got, want) || !slices.Equal(others, operands) || e != f {
			t.Errorf("%q: %q, %q, %d; one by one %q, %q, %d", group, got, others, f, want, operands, e)
		}
	}
}

// R1: long specs and arguments are taken whole.
func TestLongArgumentsAreTakenWhole(t *testing.T) {
	spec := strings.Repeat("ab:", 100000) + "c"
	group, value := strings.Repeat("ac", 500), strings.Repeat("v", 100000)
	got, operands, e := option.Parse(spec, list("-"+group, "-cb"+value, "-b", value, value))
	if e != api.OK || len(got) != 1003 || !slices.Equal(operands, list(value)) {
		t.Fatalf("%d flags, %d operands, %d", len(got), len(operands), e)
	}
	if v, is := option.Value(got, 'b'); v != value || !is {
		t.Errorf("%d bytes, %v", len(v), is)
	}
	many := slices.Repeat(list("-a", "-b", "-b"), 30000)
	got, operands, e = option.Parse("ab:", slices.Concat(many, list("--"), many))
	if e != api.OK || len(got) != 60000 || !slices.Equal(operands, many) {
		t.Errorf("%d flags, %d operands, %d", len(got), len(operands), e)
	}
}
