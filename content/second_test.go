package content_test

import (
	"math/rand"
	"strings"
	"testing"

	"flagstone/api"
	"flagstone/content"
	"flagstone/disk"
)

// becomes tells by another way than the program what x makes of a file that
// has data, where all others have rest bytes: byte by byte, each from where it
// comes, and the room by what there would be in all.
func (x deed) becomes(data string, rest, room int) (string, api.Errno) {
	if x.at < 0 {
		return data, api.ErrArg
	}
	if !x.cut && x.s == "" {
		return data, api.OK
	}
	end := x.at
	if !x.cut && x.at+len(x.s) > len(data) {
		end = x.at + len(x.s)
	} else if !x.cut {
		end = len(data)
	}
	longer := end > len(data)
	if x.at > 1000 && (!x.cut || longer) || longer && rest+end > room {
		return data, api.ErrSpace
	}
	var b strings.Builder
	for i := range end {
		switch {
		case !x.cut && i >= x.at && i < x.at+len(x.s):
			b.WriteByte(x.s[i-x.at])
		case i < len(data):
			b.WriteByte(data[i])
		default:
			b.WriteByte(0)
		}
	}
	return b.String(), api.OK
}

// check holds x against the second way, and what it makes against P9.4.
func (x deed) check(t *testing.T, d disk.Disk) disk.Disk {
	t.Helper()
	before, data := told(d), d.Nodes[x.ino].Data
	want, e := x.becomes(data, disk.Bytes(d)-len(data), d.Room)
	got, err := x.do(d)
	if err != e || told(got) != told(with(d, x.ino, want)) {
		t.Fatalf("%.200v of %.200q, room %d: %d; want %d, %.200q:\n%.2000v", x, data, d.Room, err, e, want, told(got))
	}
	if told(d) != before {
		t.Fatalf("%.200v changes what is handed in", x)
	}
	if disk.Right(d) && !disk.Right(got) {
		t.Fatalf("%.200v makes a disk that is not right: %.2000v", x, told(got))
	}
	if e == api.OK {
		x.follows(t, got)
	}
	return got
}

// follows is P9.4: what is written is read; what is cut is as long as was asked.
func (x deed) follows(t *testing.T, made disk.Disk) {
	t.Helper()
	if x.cut {
		if n, e := content.Size(made, x.ino); n != x.at || e != api.OK {
			t.Fatalf("%.200v is %d bytes long, %d", x, n, e)
		}
		return
	}
	if s, e := content.Read(made, x.ino, x.at, len(x.s)); s != x.s || e != api.OK {
		t.Fatalf("%.200v is read as %.200q, %d", x, s, e)
	}
}

// P9.1: all places and lengths about a short text.
func TestReadAgainstASecondWay(t *testing.T) {
	for size := range 6 {
		d := some(9, "abcdef"[:size])
		for at := -2; at < 9; at++ {
			for n := -2; n < 9; n++ {
				want, e := "", api.OK
				if at < 0 || n < 0 {
					e = api.ErrArg
				} else {
					for i := at; i < at+n && i < size; i++ {
						want += "abcdef"[i : i+1]
					}
				}
				reads(t, d, 1, at, n, want, e)
			}
		}
	}
}

// P9.2, P9.3, P9.4: all short texts, places and rooms.
func TestChangesAgainstASecondWay(t *testing.T) {
	for size := range 5 {
		for room := -1; room < beside+8; room++ {
			d := some(room, "abcd"[:size])
			for at := -2; at < 8; at++ {
				cut(at).check(t, d)
				for n := range 5 {
					write(at, "wxyz"[:n]).check(t, d)
				}
			}
		}
	}
}

// drawing draws numbers, the same ones whenever it is asked.
func drawing(seed int64) *rand.Rand { return rand.New(rand.NewSource(seed)) }

// number draws a small number, or one about a limit.
func number(r *rand.Rand) int {
	if r.Intn(4) > 0 {
		return r.Intn(60) - 1
	}
	return []int{900, 990, 998, 1000, 1300, 1500}[r.Intn(6)] + r.Intn(7) - 3
}

// P9.2, P9.3, P9.4: changes one behind the other, of several files.
func TestRowsOfChangesAgainstASecondWay(t *testing.T) {
	for seed := range 300 {
		r := drawing(int64(seed))
		d := some(number(r), strings.Repeat("q", max(0, number(r))))
		for range 40 {
			s := make([]byte, max(0, number(r)))
			r.Read(s)
			x := deed{r.Intn(2) == 0, []int{1, 4, 6}[r.Intn(3)], number(r), string(s)}
			if x.cut {
				x.s = ""
			}
			d = x.check(t, d)
		}
	}
}

// P9.4: what is written stays while others are written, and what is between.
func TestWhatIsWrittenStays(t *testing.T) {
	d := hold(t, 1000, "")
	for _, x := range []deed{{ino: 1, at: 4, s: "left"}, {ino: 6, at: 0, s: "other"}, {ino: 1, at: 10, s: "right"}, {cut: true, ino: 4, at: 1}} {
		d = x.check(t, d)
	}
	reads(t, d, 1, 4, 4, "left", api.OK)
	reads(t, d, 1, 0, 99, "\x00\x00\x00\x00left\x00\x00right", api.OK)
	reads(t, d, 6, 0, 99, "other", api.OK)
	reads(t, d, 4, 0, 99, "x", api.OK)
	d = cut(6).check(t, d)
	d = cut(9).check(t, d)
	reads(t, d, 1, 0, 99, "\x00\x00\x00\x00le\x00\x00\x00", api.OK) // what was cut off does not come back
}
