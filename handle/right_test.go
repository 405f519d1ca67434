package handle_test

import (
	"math"
	"testing"

	"flagstone/handle"
)

// byWords tells whether x is right by another way: each description is looked
// for in all descriptors, and each descriptor among all descriptions.
func byWords(x handle.Table) bool {
	for i, d := range x.Descs {
		n := 0
		for _, l := range x.Fds {
			for _, to := range l {
				if to == i {
					n++
				}
			}
		}
		if n != d.Refs || n == 0 && (d.Ino != 0 || d.At != 0 || d.Lock != 0 || d.Read || d.Write) {
			return false
		}
	}
	for _, l := range x.Fds {
		if len(l) != 8 {
			return false
		}
		for _, to := range l {
			found := to == -1
			for i := range x.Descs {
				found = found || to == i
			}
			if !found {
				return false
			}
		}
	}
	return true
}

// rights holds Right against want.
func rights(t *testing.T, x handle.Table, want bool) {
	t.Helper()
	keeps(t, x, func() {
		if handle.Right(x) != want {
			t.Errorf("Right = %v: %s", !want, told(x))
		}
	})
	if byWords(x) != want {
		t.Errorf("by the chapter's words not %v: %s", want, told(x))
	}
}

// P10.1
func TestRightTakesWhatIsRight(t *testing.T) {
	rights(t, some(t), true)
	rights(t, handle.Table{}, true)
	rights(t, handle.Table{Descs: descs{}, Fds: fds{}}, true)
	rights(t, handle.Table{Descs: descs{{}, {}}}, true) // descriptions without processes
	rights(t, handle.Table{Fds: fds{row()}}, true)
	many := handle.Table{Descs: descs{{Refs: 12 * 8, Ino: -1, At: math.MinInt, Lock: 9}}}
	for range 12 { // more than MaxProcs: nothing is said of how many they are
		many.Fds = append(many.Fds, make([]int, 8))
	}
	rights(t, many, true)
	rights(t, handle.Table{Descs: descs{{Ino: math.MaxInt, At: -1, Lock: 77, Refs: 1}}, Fds: fds{row(-1, -1, -1, -1, -1, -1, -1, 0)}}, true)
}

// P10.1
func TestRightRefusesWrongDescriptors(t *testing.T) {
	for _, l := range [][]int{nil, {}, {-1}, row()[:7], append(row(), -1), make([]int, 100)} {
		rights(t, handle.Table{Fds: fds{l}}, false)
		rights(t, handle.Table{Fds: fds{row(), row(), l}}, false)
	}
	rights(t, handle.Table{Descs: descs{{Refs: 7}}, Fds: fds{make([]int, 7)}}, false)
	rights(t, handle.Table{Descs: descs{{Refs: 9}}, Fds: fds{make([]int, 9)}}, false)
	for fd := range 8 {
		for _, to := range []int{-2, -3, math.MinInt, 2, 3, 8, math.MaxInt} {
			x := handle.Table{Descs: descs{{}, {}}, Fds: fds{row(), row()}}
			x.Fds[1][fd] = to
			rights(t, x, false)
		}
	}
}

// P10.1
func TestRightRefusesWrongRefs(t *testing.T) {
	for i := range 7 {
		for _, by := range []int{-1, 1, -3, 3, math.MinInt, 1 << 32} {
			x := some(t)
			x.Descs[i].Refs += by
			rights(t, x, false)
		}
	}
	x := some(t)
	x.Fds[3][7] = -1 // the last one that referred to 5
	rights(t, x, false)
	x = some(t)
	x.Fds[1][0] = 2
	rights(t, x, false)
	x = some(t)
	x.Fds[0][0] = 2 // as many in all, but not of each
	rights(t, x, false)
}

// P10.1
func TestRightRefusesClosedDescriptionsThatAreNotZero(t *testing.T) {
	for _, i := range []int{1, 3, 6} {
		for _, d := range []desc{{Ino: 1}, {Ino: -1}, {At: 1}, {At: -1}, {Read: true}, {Write: true}, {Lock: 1}, {Lock: -1}} {
			x := some(t)
			x.Descs[i] = d
			rights(t, x, false)
		}
	}
}

// P10.1: all tables of two descriptions and three descriptors that differ.
func TestRightAgainstTheWords(t *testing.T) {
	n := 0
	for refs := range 5 * 5 {
		for to := range 5 * 5 * 5 {
			for field := range 4 {
				a, b := desc{Refs: refs/5 - 1}, desc{Refs: refs%5 - 1}
				a.Ino, b.Read = field&1, field&2 > 0
				x := handle.Table{Descs: descs{a, b}, Fds: fds{row(to%5-2, to/5%5-2), row(-1, to/25-2)}}
				if got := handle.Right(x); got != byWords(x) {
					t.Errorf("Right = %v: %s", got, told(x))
				} else if got {
					n++
				}
			}
		}
	}
	if n == 0 {
		t.Error("no table is right")
	}
}
