package flock_test

import (
	"fmt"
	"math"
	"testing"

	"flagstone/api"
	"flagstone/flock"
	"flagstone/handle"
)

type desc = handle.Desc

// far are numbers that no description has, and no kind.
var far = []int{math.MinInt, math.MinInt + 1, -1 << 32, -9, -2, -1, 100, 1 << 31, 1 << 32, math.MaxInt - 1, math.MaxInt}

// table tells a right table of eight processes, and of those descriptions, each
// of which has as many descriptors, of one process after the other, as its Refs says.
func table(t testing.TB, l ...desc) handle.Table {
	t.Helper()
	x := handle.New(8)
	x.Descs = append(make([]desc, 0, len(l)+5), l...) // room behind the end, that nobody may write to
	taken := 0
	for i, d := range l {
		for range d.Refs {
			x.Fds[taken%8][taken/8] = i
			taken++
		}
	}
	if !handle.Right(x) {
		t.Fatal("not right: ", told(x))
	}
	return x
}

// held tells a right table of descriptions of node 5, each with one of those locks.
func held(t testing.TB, locks ...int) handle.Table {
	t.Helper()
	var l []desc
	for _, lock := range locks {
		l = append(l, desc{Ino: 5, Refs: 1, Lock: lock})
	}
	return table(t, l...)
}

// some tells a right table: of node 4 the descriptions 0, 2 and 6 are open, of
// node 7 the descriptions 3 and 5, of node 0 the description 8; nothing refers
// to 1, 4 and 7.
func some(t testing.TB) handle.Table {
	t.Helper()
	return table(t,
		desc{Ino: 4, At: 7, Read: true, Refs: 1, Lock: flock.Shared},
		desc{},
		desc{Ino: 4, At: -3, Write: true, Refs: 3, Lock: flock.Shared},
		desc{Ino: 7, Refs: 2, Lock: flock.Exclusive},
		desc{},
		desc{Ino: 7, Read: true, Write: true, Refs: 1},
		desc{Ino: 4, Refs: 1},
		desc{},
		desc{Refs: 2},
	)
}

// told tells a table; of a nil list the same as of an empty one.
func told(x handle.Table) string { return fmt.Sprintf("%+v", x) }

// keeps holds that f does not change x, nor what stands behind the ends of its lists.
func keeps(t *testing.T, x handle.Table, f func()) {
	t.Helper()
	whole := func() string {
		s := fmt.Sprintf("%+v %+v", x.Descs[:cap(x.Descs)], x.Fds[:cap(x.Fds)])
		for _, r := range x.Fds[:cap(x.Fds)] {
			s += fmt.Sprint(r[:cap(r)])
		}
		return s
	}
	before := whole()
	f()
	if after := whole(); after != before {
		t.Errorf("what is handed in is changed:\n%s\n%s", before, after)
	}
}

// locked tells x with that lock of description i.
func locked(x handle.Table, i, kind int) handle.Table {
	x.Descs = append([]desc{}, x.Descs...)
	x.Descs[i].Lock = kind
	return x
}

// locks holds a Lock against what it has to tell: x with the lock, or as it
// was, with an error.
func locks(t *testing.T, x handle.Table, i, kind int, e api.Errno) {
	t.Helper()
	want := x
	if e == api.OK {
		want = locked(x, i, kind)
	}
	keeps(t, x, func() {
		if got, err := flock.Lock(x, i, kind); err != e || told(got) != told(want) {
			t.Errorf("Lock(%d, %d) of %s = %d, %s; want %d, %s", i, kind, told(x), err, told(got), e, told(want))
		}
	})
}

func holders(t *testing.T, x handle.Table, ino, shared, exclusive int) {
	t.Helper()
	keeps(t, x, func() {
		if s, e := flock.Holders(x, ino); s != shared || e != exclusive {
			t.Errorf("Holders(%d) of %s = %d, %d; want %d, %d", ino, told(x), s, e, shared, exclusive)
		}
	})
}

func fair(t *testing.T, x handle.Table, want bool) {
	t.Helper()
	keeps(t, x, func() {
		if got := flock.Fair(x); got != want {
			t.Errorf("Fair of %s = %v", told(x), got)
		}
	})
}

func TestKinds(t *testing.T) {
	if flock.None != 0 || flock.Shared != 1 || flock.Exclusive != 2 {
		t.Error(flock.None, flock.Shared, flock.Exclusive)
	}
}

// The chapter's example: one has Shared; another one asks Exclusive.
func TestExample(t *testing.T) {
	locks(t, held(t, flock.Shared, flock.None), 1, flock.Exclusive, api.ErrAgain)
}

// P11.1
func TestLockOfOneAlone(t *testing.T) {
	for was := range 3 {
		for kind := range 3 {
			locks(t, held(t, was), 0, kind, api.OK)
		}
	}
}

// P11.1: what another one has, and what is asked; what one has himself is not asked.
func TestLockBesideAnother(t *testing.T) {
	no := map[[2]int]bool{{1, 2}: true, {2, 1}: true, {2, 2}: true}
	for other := range 3 {
		for own := range 3 {
			for kind := range 3 {
				e := api.OK
				if no[[2]int{other, kind}] {
					e = api.ErrAgain
				}
				locks(t, held(t, other, own), 1, kind, e)
				locks(t, held(t, own, other), 0, kind, e)
				locks(t, held(t, 0, own, 0, other, 0), 1, kind, e)
				locks(t, held(t, other, 0, own, 0), 2, kind, e)
			}
		}
	}
}

// P11.1
func TestLockBesideManyWhoShare(t *testing.T) {
	x := held(t, 1, 1, 0, 1, 1, 0)
	for i := range 6 {
		locks(t, x, i, flock.None, api.OK)
		locks(t, x, i, flock.Shared, api.OK)
		locks(t, x, i, flock.Exclusive, api.ErrAgain)
	}
}

// P11.1: with a right table a lock may be of no kind that there is; it is none
// but None, and it is not Exclusive.
func TestLockBesideALockOfNoKind(t *testing.T) {
	for _, odd := range append([]int{3, 4}, far...) {
		x := held(t, odd, 0)
		locks(t, x, 1, flock.None, api.OK)
		locks(t, x, 1, flock.Shared, api.OK)
		locks(t, x, 1, flock.Exclusive, api.ErrAgain)
		for kind := range 3 {
			locks(t, x, 0, kind, api.OK)
		}
	}
}

// P11.1: others are those of the same node alone.
func TestLockBesideOtherNodes(t *testing.T) {
	for _, ino := range append([]int{0, 1, 4, 6, 99}, far...) {
		for other := range 3 {
			for kind := range 3 {
				locks(t, table(t, desc{Ino: 5, Refs: 1}, desc{Ino: ino, Refs: 1, Lock: other}), 0, kind, api.OK)
				locks(t, table(t, desc{Ino: ino, Refs: 2, Lock: other}, desc{Ino: 5, Refs: 2}), 1, kind, api.OK)
			}
		}
	}
}

// P11.1: another one is another description, also where the two are alike, and
// descriptors of one description have one lock.
func TestLockOfWhatIsAlike(t *testing.T) {
	one := desc{Ino: 5, At: 2, Read: true, Refs: 1, Lock: flock.Shared}
	locks(t, table(t, one, one), 0, flock.Exclusive, api.ErrAgain)
	locks(t, table(t, one, one), 1, flock.Exclusive, api.ErrAgain)
	one.Refs = 64
	for kind := range 3 {
		locks(t, table(t, one), 0, kind, api.OK)
	}
}

// P11.1: all but the lock stays, of all descriptions and all descriptors.
func TestLockKeepsAllElse(t *testing.T) {
	x := some(t)
	for _, s := range []struct {
		i, kind int
		e       api.Errno
	}{
		{0, 0, api.OK}, {0, 1, api.OK}, {0, 2, api.ErrAgain},
		{2, 0, api.OK}, {2, 1, api.OK}, {2, 2, api.ErrAgain},
		{3, 0, api.OK}, {3, 1, api.OK}, {3, 2, api.OK},
		{5, 0, api.OK}, {5, 1, api.ErrAgain}, {5, 2, api.ErrAgain},
		{6, 0, api.OK}, {6, 1, api.OK}, {6, 2, api.ErrAgain},
		{8, 0, api.OK}, {8, 1, api.OK}, {8, 2, api.OK},
	} {
		locks(t, x, s.i, s.kind, s.e)
	}
	one := desc{Ino: math.MinInt, At: math.MaxInt, Read: true, Write: true, Refs: 7, Lock: flock.Shared}
	for kind := range 3 {
		locks(t, table(t, one), 0, kind, api.OK)
	}
}

// P11.1
func TestLockOfWhatIsNotOpen(t *testing.T) {
	x := some(t)
	for kind := range 3 {
		for _, i := range append([]int{1, 4, 7, 9, 10}, far...) { // 1, 4 and 7 are there, but nothing refers to them
			locks(t, x, i, kind, api.ErrBad)
		}
		for _, i := range append([]int{0, 1, 7}, far...) {
			locks(t, handle.New(8), i, kind, api.ErrBad)
			locks(t, handle.Table{}, i, kind, api.ErrBad)
		}
	}
}

// P11.1: what is wrong with the kind is told first, then what is wrong with the
// description, then who is in the way.
func TestLockOfNoKind(t *testing.T) {
	x := some(t)
	for _, kind := range append([]int{3, 4, 8}, far...) {
		for _, i := range append([]int{0, 1, 2, 3, 4, 5, 6, 7, 8, 9}, far...) {
			locks(t, x, i, kind, api.ErrArg)
			locks(t, handle.Table{}, i, kind, api.ErrArg)
		}
	}
	locks(t, held(t, 2, 0), 1, 3, api.ErrArg)
	locks(t, held(t, 2, 0), 2, 2, api.ErrBad)
	locks(t, table(t, desc{Refs: 1, Lock: flock.Exclusive}, desc{}), 1, flock.Exclusive, api.ErrBad) // a vacant place, and node 0
}

// P11.1: also where many have a node open, the last one is asked.
func TestLockBesideTheLastOfMany(t *testing.T) {
	for n := 2; n <= 64; n++ {
		l := make([]int, n)
		locks(t, held(t, l...), 0, flock.Exclusive, api.OK)
		l[n-1] = flock.Exclusive
		locks(t, held(t, l...), 0, flock.Exclusive, api.ErrAgain)
		locks(t, held(t, l...), 0, flock.Shared, api.ErrAgain)
		locks(t, held(t, l...), n-1, flock.Shared, api.OK)
	}
}

// P11.2
func TestHoldersOfEachNode(t *testing.T) {
	x := some(t)
	holders(t, x, 4, 2, 0)
	holders(t, x, 7, 0, 1)
	holders(t, x, 0, 0, 0)
	for _, ino := range append([]int{1, 2, 3, 5, 6, 8}, far...) {
		holders(t, x, ino, 0, 0)
		holders(t, handle.Table{}, ino, 0, 0)
		holders(t, handle.New(8), ino, 0, 0)
	}
	for _, ino := range append([]int{0, 5}, far...) {
		y := table(t, desc{Ino: ino, Refs: 1, Lock: flock.Shared}, desc{}, desc{Ino: 6, Refs: 1, Lock: flock.Shared}, desc{Ino: ino, Refs: 2, Lock: flock.Exclusive})
		holders(t, y, ino, 1, 1)
		holders(t, y, 6, 1, 0)
	}
}

// P11.2: descriptions are counted, not what refers to them; fair or not.
func TestHoldersAreCounted(t *testing.T) {
	for _, s := range []struct {
		locks             []int
		shared, exclusive int
	}{
		{nil, 0, 0},
		{[]int{0}, 0, 0},
		{[]int{1}, 1, 0},
		{[]int{2}, 0, 1},
		{[]int{1, 1, 1}, 3, 0},
		{[]int{2, 2}, 0, 2},
		{[]int{0, 1, 2, 0, 2, 1, 1}, 3, 2},
		{[]int{3, -1, 4, math.MinInt, math.MaxInt, 1<<32 + 1, 1<<32 + 2}, 0, 0},
	} {
		holders(t, held(t, s.locks...), 5, s.shared, s.exclusive)
	}
	holders(t, table(t, desc{Ino: 5, Refs: 9, Lock: flock.Shared}, desc{Ino: 5, Refs: 7, Lock: flock.Exclusive}), 5, 1, 1)
	holders(t, held(t, make([]int, 64)...), 5, 0, 0)
}

// P11.2
func TestFairOfOneNode(t *testing.T) {
	for _, s := range []struct {
		locks []int
		want  bool
	}{
		{nil, true},
		{[]int{0}, true},
		{[]int{1}, true},
		{[]int{2}, true},
		{[]int{0, 2, 0}, true},
		{[]int{1, 0, 1, 1}, true},
		{[]int{2, 2}, false},
		{[]int{2, 0, 2}, false},
		{[]int{2, 1}, false},
		{[]int{1, 2}, false},
		{[]int{0, 1, 0, 2}, false},
		{[]int{1, 1, 2, 2}, false},
	} {
		fair(t, held(t, s.locks...), s.want)
	}
	fair(t, handle.Table{}, true)
	fair(t, table(t, desc{Ino: 5, Refs: 9, Lock: flock.Exclusive}), true) // one holder, however many refer to it
}

// P11.2: one node has nothing to do with another one.
func TestFairOfEachNode(t *testing.T) {
	fair(t, some(t), true)
	e, s, n := flock.Exclusive, flock.Shared, flock.None
	fair(t, table(t, desc{Ino: 5, Refs: 1, Lock: e}, desc{Ino: 6, Refs: 1, Lock: e}, desc{Refs: 1, Lock: e}), true)
	fair(t, table(t, desc{Ino: 5, Refs: 1, Lock: e}, desc{Ino: 6, Refs: 1, Lock: s}, desc{Ino: 6, Refs: 1, Lock: s}), true)
	fair(t, table(t, desc{Ino: 5, Refs: 1, Lock: e}, desc{Ino: 6, Refs: 1, Lock: s}, desc{Ino: 5, Refs: 1, Lock: n}), true)
	fair(t, table(t, desc{Ino: 5, Refs: 1, Lock: e}, desc{}, desc{Ino: 6, Refs: 1, Lock: s}, desc{Ino: 6, Refs: 1, Lock: e}), false)
	fair(t, table(t, desc{Ino: 5, Refs: 1, Lock: s}, desc{Ino: 6, Refs: 1, Lock: e}, desc{Ino: 6, Refs: 1, Lock: e}), false)
	fair(t, table(t, desc{Refs: 1, Lock: e}, desc{}, desc{Refs: 1, Lock: s}), false)
	fair(t, table(t, desc{Refs: 1, Lock: e}, desc{}, desc{Refs: 1}), true)
}

// P11.2
func TestFairHasNoOtherKinds(t *testing.T) {
	for _, odd := range append([]int{3, 4, 1 << 32, 1<<32 + 1}, far...) {
		fair(t, held(t, odd), false)
		fair(t, held(t, 0, 1, odd), false)
		fair(t, table(t, desc{Ino: 5, Refs: 1, Lock: flock.Exclusive}, desc{Ino: 6, Refs: 1, Lock: odd}), false)
	}
}

// R4: who goes on from one table in two ways has two tables.
func TestTwoWaysOn(t *testing.T) {
	x := held(t, 0, 0)
	keeps(t, x, func() {
		a, _ := flock.Lock(x, 0, flock.Exclusive)
		b, _ := flock.Lock(x, 1, flock.Exclusive)
		c, _ := flock.Lock(a, 0, flock.Shared)
		for i, s := range []struct{ got, want handle.Table }{{a, held(t, 2, 0)}, {b, held(t, 0, 2)}, {c, held(t, 1, 0)}} {
			if told(s.got) != told(s.want) {
				t.Errorf("%d: %s; want %s", i, told(s.got), told(s.want))
			}
		}
	})
}

// R1: no call panics, whatever the table is.
func TestNothingPanics(t *testing.T) {
	wrong := handle.Table{Descs: []desc{{Refs: -1, Lock: 2}, {Ino: 7, Lock: -1}, {Ino: 7, Refs: math.MaxInt, Lock: 9}}, Fds: [][]int{nil, {-2, 9, 0, math.MaxInt}, make([]int, 99)}}
	for _, x := range []handle.Table{{}, handle.New(8), some(t), wrong, {Descs: wrong.Descs}} {
		keeps(t, x, func() {
			flock.Fair(x)
			for _, i := range append([]int{0, 1, 2, 3, 4, 5, 6, 7, 8, 9}, far...) {
				flock.Holders(x, i)
				for _, kind := range append([]int{0, 1, 2, 3}, far...) {
					flock.Lock(x, i, kind)
				}
			}
		})
	}
}
