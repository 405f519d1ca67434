package handle_test

import (
	"fmt"
	"math"
	"testing"

	"flagstone/api"
	"flagstone/handle"
)

type (
	desc  = handle.Desc
	descs = []handle.Desc
	fds   = [][]int
)

// far are numbers that no process, descriptor or description has.
var far = []int{math.MinInt, math.MinInt + 1, -1 << 32, -9, -2, -1, 8, 9, 100, 1 << 31, 1 << 32, math.MaxInt - 1, math.MaxInt}

// row tells the descriptors of a process: l, and -1 behind them.
func row(l ...int) []int {
	for len(l) < 8 {
		l = append(l, -1)
	}
	return l
}

// some tells a right table: process 0 has the descriptions 0 (as descriptor 0),
// 2 (as 1 and 3) and 4 (as 2); process 1 has nothing, process 2 has all its
// descriptors in use, process 3 the descriptor 7 alone. Nothing refers to the
// descriptions 1, 3 and 6.
func some(t *testing.T) handle.Table {
	t.Helper()
	x := handle.Table{
		Descs: descs{
			{Ino: 4, At: 7, Read: true, Refs: 1, Lock: 1},
			{},
			{Ino: 5, Write: true, Refs: 3},
			{},
			{Ino: 4, At: -3, Read: true, Write: true, Refs: 8, Lock: -9},
			{Refs: 1},
			{},
		},
		Fds: fds{row(0, 2, 4, 2), row(), row(4, 4, 4, 4, 4, 4, 4, 2), row(-1, -1, -1, -1, -1, -1, -1, 5)},
	}
	if !handle.Right(x) {
		t.Fatal("not right: ", told(x))
	}
	return x
}

// told tells a table; of a nil list the same as of an empty one.
func told(x handle.Table) string { return fmt.Sprintf("%+v", x) }

// keeps holds that f does not change x, nor what stands behind the ends of its lists.
func keeps(t *testing.T, x handle.Table, f func()) {
	t.Helper()
	whole := func() string {
		s := fmt.Sprintf("%+v %+v", x.Descs[:cap(x.Descs)], x.Fds[:cap(x.Fds)])
		for _, r := range x.Fds[:cap(x.Fds)] {
			s += fmt.Sprint(r[:cap(r)])
		}
		return s
	}
	before := whole()
	f()
	if after := whole(); after != before {
		t.Errorf("what is handed in is changed:\n%s\n%s", before, after)
	}
}

// with tells x with that description and that descriptor otherwise, or with
// the description behind all.
func with(x handle.Table, i int, d desc, p, fd, to int) handle.Table {
	x.Descs = append(descs{}, x.Descs...)
	if i == len(x.Descs) {
		x.Descs = append(x.Descs, desc{})
	}
	x.Descs[i] = d
	x.Fds = append(fds{}, x.Fds...)
	x.Fds[p] = append([]int{}, x.Fds[p]...)
	x.Fds[p][fd] = to
	return x
}

// opens holds an Open against the table and the descriptor, or the error, that it has to tell.
func opens(t *testing.T, x handle.Table, p int, d desc, want handle.Table, fd int, e api.Errno) {
	t.Helper()
	keeps(t, x, func() {
		if got, n, err := handle.Open(x, p, d); told(got) != told(want) || n != fd || err != e {
			t.Errorf("Open(%d, %+v) = %d, %d, %s; want %d, %d, %s", p, d, n, err, told(got), fd, e, told(want))
		}
	})
}

func dups(t *testing.T, x handle.Table, p, of int, want handle.Table, fd int, e api.Errno) {
	t.Helper()
	keeps(t, x, func() {
		if got, n, err := handle.Dup(x, p, of); told(got) != told(want) || n != fd || err != e {
			t.Errorf("Dup(%d, %d) = %d, %d, %s; want %d, %d, %s", p, of, n, err, told(got), fd, e, told(want))
		}
	})
}

func closes(t *testing.T, x handle.Table, p, fd int, want handle.Table, d desc, e api.Errno) {
	t.Helper()
	keeps(t, x, func() {
		if got, n, err := handle.Close(x, p, fd); told(got) != told(want) || n != d || err != e {
			t.Errorf("Close(%d, %d) = %+v, %d, %s; want %+v, %d, %s", p, fd, n, err, told(got), d, e, told(want))
		}
	})
}

func gets(t *testing.T, x handle.Table, p, fd, i int, d desc, is bool) {
	t.Helper()
	keeps(t, x, func() {
		if got, n, open := handle.Get(x, p, fd); got != i || n != d || open != is {
			t.Errorf("Get(%d, %d) = %d, %+v, %v; want %d, %+v, %v", p, fd, got, n, open, i, d, is)
		}
	})
}

func sets(t *testing.T, x handle.Table, i int, d desc, want handle.Table) {
	t.Helper()
	keeps(t, x, func() {
		if got := handle.Set(x, i, d); told(got) != told(want) {
			t.Errorf("Set(%d, %+v) = %s; want %s", i, d, told(got), told(want))
		}
	})
}

func counts(t *testing.T, x handle.Table, p, want int) {
	t.Helper()
	keeps(t, x, func() {
		if got := handle.Count(x, p); got != want {
			t.Errorf("Count(%d) = %d; want %d", p, got, want)
		}
	})
}

// P10.1
func TestNewHasProcessesWithoutAnything(t *testing.T) {
	for procs := 1; procs <= 8; procs++ {
		x := handle.New(procs)
		if len(x.Descs) != 0 || len(x.Fds) != procs || !handle.Right(x) {
			t.Errorf("New(%d) = %s", procs, told(x))
		}
		for p := range x.Fds {
			if fmt.Sprint(x.Fds[p]) != fmt.Sprint(row()) {
				t.Errorf("New(%d) has process %d with %v", procs, p, x.Fds[p])
			}
			counts(t, x, p, 0)
		}
		counts(t, x, procs, 0)
	}
	for _, procs := range append([]int{0, 10}, far...) {
		if procs == 8 {
			continue
		}
		if x := handle.New(procs); len(x.Descs) != 0 || len(x.Fds) != 0 || !handle.Right(x) {
			t.Errorf("New(%d) = %s", procs, told(x))
		}
	}
}

// P10.1: no two processes share their descriptors, nor do two tables.
func TestNewSharesNothing(t *testing.T) {
	x, y := handle.New(3), handle.New(3)
	x.Fds[1][2] = 5
	if fmt.Sprint(x.Fds) != fmt.Sprint(fds{row(), row(-1, -1, 5), row()}) || told(y) != told(handle.New(3)) {
		t.Error(told(x), told(y))
	}
}

// P10.2
func TestGetTellsWhatADescriptorRefersTo(t *testing.T) {
	x := some(t)
	for p, l := range x.Fds {
		for fd, i := range l {
			if i < 0 {
				gets(t, x, p, fd, -1, desc{}, false)
				continue
			}
			gets(t, x, p, fd, i, x.Descs[i], true)
		}
		for _, fd := range far {
			gets(t, x, p, fd, -1, desc{}, false)
		}
	}
	for _, p := range append([]int{4, 5}, far...) {
		for _, fd := range append([]int{0, 3, 7}, far...) {
			gets(t, x, p, fd, -1, desc{}, false)
		}
	}
	gets(t, handle.Table{}, 0, 0, -1, desc{}, false)
}

// P10.2
func TestSetKeepsRefs(t *testing.T) {
	x := some(t)
	for _, i := range []int{0, 2, 4, 5} {
		for _, d := range []desc{
			{},
			{Ino: 9, At: 8, Read: true, Write: true, Lock: 2},
			{Ino: 9, Refs: 77},
			{Ino: -1, At: math.MaxInt, Refs: math.MinInt, Lock: -5},
			{Write: true, Refs: 1},
		} {
			want := d
			want.Refs = x.Descs[i].Refs
			sets(t, x, i, d, with(x, i, want, 0, 0, 0))
		}
	}
}

// P10.2
func TestSetOfWhatIsNotThere(t *testing.T) {
	x := some(t)
	for _, i := range append([]int{1, 3, 6, 7}, far...) { // 1, 3 and 6 are there, but nothing refers to them
		sets(t, x, i, desc{}, x)
		sets(t, x, i, desc{Ino: 9, Refs: 2}, x)
	}
	sets(t, handle.Table{}, 0, desc{Ino: 9, Refs: 1}, handle.Table{})
}

// P10.2
func TestCountTellsDescriptorsInUse(t *testing.T) {
	x := some(t)
	for p, want := range []int{4, 0, 8, 1} {
		counts(t, x, p, want)
	}
	for _, p := range append([]int{4, 5}, far...) {
		counts(t, x, p, 0)
	}
	counts(t, handle.Table{}, 0, 0)
}

// P10.3
func TestOpenTakesTheFirstThatIsVacant(t *testing.T) {
	x := some(t)
	d := desc{Ino: 9, At: 3, Write: true, Lock: 2}
	one := desc{Ino: 9, At: 3, Write: true, Refs: 1, Lock: 2}
	for _, d.Refs = range []int{0, 1, 5, -1, math.MinInt, math.MaxInt} { // whatever it is handed in
		opens(t, x, 0, d, with(x, 1, one, 0, 4, 1), 4, api.OK)
		opens(t, x, 1, d, with(x, 1, one, 1, 0, 1), 0, api.OK)
		opens(t, x, 3, d, with(x, 1, one, 3, 0, 1), 0, api.OK)
	}
	opens(t, x, 1, desc{}, with(x, 1, desc{Refs: 1}, 1, 0, 1), 0, api.OK)
	opens(t, x, 1, x.Descs[2], with(x, 1, desc{Ino: 5, Write: true, Refs: 1}, 1, 0, 1), 0, api.OK) // one more of the same node
	y := with(x, 1, one, 1, 0, 1)
	opens(t, y, 0, d, with(y, 3, one, 0, 4, 3), 4, api.OK)
	y = with(y, 3, one, 1, 1, 3)
	opens(t, y, 0, d, with(y, 6, one, 0, 4, 6), 4, api.OK)
	y = with(y, 6, one, 1, 5, 6)
	opens(t, y, 1, d, with(y, 7, one, 1, 2, 7), 2, api.OK) // none is vacant: behind all
	opens(t, handle.New(1), 0, d, handle.Table{Descs: descs{one}, Fds: fds{row(0)}}, 0, api.OK)
}

// P10.3
func TestOpenRefuses(t *testing.T) {
	x := some(t)
	for _, p := range append([]int{4, 5}, far...) {
		opens(t, x, p, desc{Ino: 1}, x, 0, api.ErrArg)
		opens(t, handle.Table{}, p, desc{}, handle.Table{}, 0, api.ErrArg)
	}
	opens(t, handle.New(0), 0, desc{}, handle.Table{}, 0, api.ErrArg)
	opens(t, handle.New(8), 8, desc{}, handle.New(8), 0, api.ErrArg)
	opens(t, x, 2, desc{Ino: 1}, x, 0, api.ErrMany) // though descriptions are vacant
}

// P10.3
func TestOpenTakesAllDescriptorsInTheirOrder(t *testing.T) {
	x := handle.New(8)
	for p := 7; p >= 0; p-- {
		for fd := range 8 {
			d := desc{Ino: p, At: fd, Refs: 1}
			want := with(x, len(x.Descs), d, p, fd, len(x.Descs))
			opens(t, x, p, d, want, fd, api.OK)
			x = want
		}
		opens(t, x, p, desc{}, x, 0, api.ErrMany)
	}
	if len(x.Descs) != 64 || !handle.Right(x) {
		t.Error(told(x))
	}
}

// P10.3
func TestDupTakesTheFirstDescriptor(t *testing.T) {
	x := some(t)
	for fd, i := range []int{0, 2, 4, 2} {
		more := x.Descs[i]
		more.Refs++
		dups(t, x, 0, fd, with(x, i, more, 0, 4, i), 4, api.OK)
	}
	dups(t, x, 3, 7, with(x, 5, desc{Refs: 2}, 3, 0, 5), 0, api.OK)
	y := handle.Table{Descs: descs{{Ino: 1, At: 2, Lock: 3, Refs: 2}}, Fds: fds{row(0, -1, 0)}}
	dups(t, y, 0, 0, with(y, 0, desc{Ino: 1, At: 2, Lock: 3, Refs: 3}, 0, 1, 0), 1, api.OK)
	dups(t, y, 0, 2, with(y, 0, desc{Ino: 1, At: 2, Lock: 3, Refs: 3}, 0, 1, 0), 1, api.OK)
}

// P10.3
func TestDupRefuses(t *testing.T) {
	x := some(t)
	for _, p := range append([]int{4, 5}, far...) {
		for _, fd := range append([]int{0, 7}, far...) {
			dups(t, x, p, fd, x, 0, api.ErrBad)
		}
	}
	for p := range x.Fds { // of 2, too, that has no descriptor more
		for _, fd := range far {
			dups(t, x, p, fd, x, 0, api.ErrBad)
		}
	}
	dups(t, x, 0, 4, x, 0, api.ErrBad)
	dups(t, x, 1, 0, x, 0, api.ErrBad)
	dups(t, x, 3, 0, x, 0, api.ErrBad)
	for fd := range 8 {
		dups(t, x, 2, fd, x, 0, api.ErrMany)
	}
	dups(t, handle.Table{}, 0, 0, handle.Table{}, 0, api.ErrBad)
}

// P10.3
func TestCloseOfTheLastThatRefers(t *testing.T) {
	x := some(t)
	closes(t, x, 0, 0, with(x, 0, desc{}, 0, 0, -1), desc{Ino: 4, At: 7, Read: true, Lock: 1}, api.OK)
	closes(t, x, 3, 7, with(x, 5, desc{}, 3, 7, -1), desc{}, api.OK)
	y := handle.Table{Descs: descs{{Ino: 1, At: 2, Read: true, Write: true, Refs: 1, Lock: 2}}, Fds: fds{row(-1, 0)}}
	closes(t, y, 0, 1, handle.Table{Descs: descs{{}}, Fds: fds{row()}}, desc{Ino: 1, At: 2, Read: true, Write: true, Lock: 2}, api.OK)
}

// P10.3
func TestCloseOfOneOfMore(t *testing.T) {
	x := some(t)
	for _, at := range [][2]int{{0, 1}, {0, 3}, {2, 7}} {
		left := desc{Ino: 5, Write: true, Refs: 2}
		closes(t, x, at[0], at[1], with(x, 2, left, at[0], at[1], -1), left, api.OK)
	}
	for _, at := range [][2]int{{0, 2}, {2, 0}, {2, 3}, {2, 6}} {
		left := desc{Ino: 4, At: -3, Read: true, Write: true, Refs: 7, Lock: -9}
		closes(t, x, at[0], at[1], with(x, 4, left, at[0], at[1], -1), left, api.OK)
	}
	y := handle.Table{Descs: descs{{Ino: 1, Refs: 2, Lock: 1}}, Fds: fds{row(0), row(0)}}
	closes(t, y, 1, 0, with(y, 0, desc{Ino: 1, Refs: 1, Lock: 1}, 1, 0, -1), desc{Ino: 1, Refs: 1, Lock: 1}, api.OK)
}

// P10.3
func TestCloseRefuses(t *testing.T) {
	x := some(t)
	for _, p := range append([]int{4, 5}, far...) {
		for _, fd := range append([]int{0, 7}, far...) {
			closes(t, x, p, fd, x, desc{}, api.ErrBad)
		}
	}
	for p := range x.Fds {
		for _, fd := range far {
			closes(t, x, p, fd, x, desc{}, api.ErrBad)
		}
	}
	closes(t, x, 0, 4, x, desc{}, api.ErrBad)
	closes(t, x, 1, 0, x, desc{}, api.ErrBad)
	closes(t, x, 3, 0, x, desc{}, api.ErrBad)
	closes(t, handle.Table{}, 0, 0, handle.Table{}, desc{}, api.ErrBad)
}

// The chapter's example: Open, Open, Close 0, Open.
func TestExample(t *testing.T) {
	a, i, _ := handle.Open(handle.New(1), 0, desc{Ino: 1})
	b, j, _ := handle.Open(a, 0, desc{Ino: 2})
	c, _, e := handle.Close(b, 0, 0)
	d, k, _ := handle.Open(c, 0, desc{Ino: 3})
	if i != 0 || j != 1 || e != api.OK || k != 0 {
		t.Error(i, j, e, k)
	}
	if told(d) != told(handle.Table{Descs: descs{{Ino: 3, Refs: 1}, {Ino: 2, Refs: 1}}, Fds: fds{row(0, 1)}}) {
		t.Error(told(d))
	}
}

// R4: who goes on from one table in two ways has two tables, also where the
// lists of that one have room behind their ends.
func TestTwoWaysOn(t *testing.T) {
	x := handle.Table{Descs: make(descs, 0, 9), Fds: append(make(fds, 0, 9), append(make([]int, 0, 20), row()...))}
	keeps(t, x, func() {
		a, _, _ := handle.Open(x, 0, desc{Ino: 1})
		b, _, _ := handle.Open(x, 0, desc{Ino: 2})
		c, _, _ := handle.Dup(a, 0, 0)
		d, _, _ := handle.Close(a, 0, 0)
		e := handle.Set(a, 0, desc{Ino: 5})
		for _, y := range []struct {
			got  handle.Table
			want handle.Table
		}{
			{a, handle.Table{Descs: descs{{Ino: 1, Refs: 1}}, Fds: fds{row(0)}}},
			{b, handle.Table{Descs: descs{{Ino: 2, Refs: 1}}, Fds: fds{row(0)}}},
			{c, handle.Table{Descs: descs{{Ino: 1, Refs: 2}}, Fds: fds{row(0, 0)}}},
			{d, handle.Table{Descs: descs{{}}, Fds: fds{row()}}},
			{e, handle.Table{Descs: descs{{Ino: 5, Refs: 1}}, Fds: fds{row(0)}}},
		} {
			if told(y.got) != told(y.want) {
				t.Errorf("%s; want %s", told(y.got), told(y.want))
			}
		}
	})
}

// R1: no call panics, or goes on and on, at numbers that are far off.
func TestNothingPanics(t *testing.T) {
	wrong := handle.Table{Descs: descs{{Refs: -1}, {}, {Ino: 7}}, Fds: fds{nil, {-2, 9, 0, math.MaxInt}, row(math.MinInt, 1, 2), make([]int, 99)}}
	numbers := append([]int{0, 1, 2, 3, 4, 5, 6, 7}, far...)
	for _, x := range []handle.Table{{}, handle.New(8), some(t), wrong} {
		keeps(t, x, func() {
			handle.Right(x)
			for _, p := range numbers {
				handle.New(p)
				handle.Count(x, p)
				handle.Set(x, p, desc{Refs: p})
				handle.Open(x, p, desc{Ino: p})
				for _, fd := range numbers {
					handle.Get(x, p, fd)
					handle.Dup(x, p, fd)
					handle.Close(x, p, fd)
				}
			}
		})
	}
}
