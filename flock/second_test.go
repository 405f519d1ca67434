package flock_test

import (
	"fmt"
	"math/rand"
	"testing"

	"flagstone/api"
	"flagstone/flock"
	"flagstone/handle"
)

// node is who holds a node by the second way, where that is kept, not looked
// for: a description is in at most one of the two.
type node struct {
	readers map[int]bool
	writer  int // -1: nobody
}

// desk keeps who holds what: for each node, and which node a description has open.
type desk struct {
	nodes map[int]*node
	open  map[int]int
}

// deskOf tells a desk of a fair table.
func deskOf(x handle.Table) desk {
	d := desk{map[int]*node{}, map[int]int{}}
	for i, y := range x.Descs {
		if y.Refs == 0 {
			continue
		}
		d.open[i] = y.Ino
		d.put(i, y.Lock)
	}
	return d
}

func (d desk) node(ino int) *node {
	if d.nodes[ino] == nil {
		d.nodes[ino] = &node{map[int]bool{}, -1}
	}
	return d.nodes[ino]
}

// put has description i let go, and take a lock of that kind, whoever is in its way.
func (d desk) put(i, kind int) {
	n := d.node(d.open[i])
	delete(n.readers, i)
	if n.writer == i {
		n.writer = -1
	}
	switch kind {
	case 1:
		n.readers[i] = true
	case 2:
		n.writer = i
	}
}

// lock is what Lock has to tell.
func (d desk) lock(i, kind int) api.Errno {
	if kind != 0 && kind != 1 && kind != 2 {
		return api.ErrArg
	}
	if _, is := d.open[i]; !is {
		return api.ErrBad
	}
	n := d.node(d.open[i])
	foreign := n.writer >= 0 && n.writer != i
	readers := len(n.readers)
	if n.readers[i] {
		readers--
	}
	if kind == 1 && foreign || kind == 2 && (foreign || readers > 0) {
		return api.ErrAgain
	}
	d.put(i, kind)
	return api.OK
}

// counts is what Holders has to tell.
func (d desk) counts(ino int) (int, int) {
	n := d.node(ino)
	if n.writer >= 0 {
		return len(n.readers), 1
	}
	return len(n.readers), 0
}

// both has a Lock of x done both ways, holds them against each other, and tells
// the table, and the error. x is fair, and stays so (P11.3).
func both(t *testing.T, x handle.Table, i, kind int) (handle.Table, api.Errno) {
	t.Helper()
	d := deskOf(x)
	y, e := flock.Lock(x, i, kind)
	if want := d.lock(i, kind); e != want {
		t.Fatalf("Lock(%d, %d) of %s = %d; want %d", i, kind, told(x), e, want)
	}
	want := x
	if e == api.OK {
		want = locked(x, i, kind)
	}
	if told(y) != told(want) {
		t.Fatalf("Lock(%d, %d) of %s = %s; want %s", i, kind, told(x), told(y), told(want))
	}
	if !handle.Right(y) || !flock.Fair(y) {
		t.Fatalf("Lock(%d, %d) of %s = %s, that is not right and fair", i, kind, told(x), told(y))
	}
	for ino := range 5 {
		s, f := flock.Holders(y, ino)
		if shared, exclusive := d.counts(ino); s != shared || f != exclusive {
			t.Fatalf("Holders(%d) of %s = %d, %d; want %d, %d", ino, told(y), s, f, shared, exclusive)
		}
	}
	return y, e
}

// everyTable hands to f all tables of n descriptions, each of which is of node 0
// or 1, with one of the locks, or is vacant.
func everyTable(t *testing.T, n int, f func(x handle.Table)) {
	t.Helper()
	all := 1
	for range n {
		all *= 7
	}
	for rest := range all {
		l := make([]desc, n)
		for i := range l {
			if kind := rest % 7; kind < 6 {
				l[i] = desc{Ino: kind % 2, Refs: 1, Lock: kind / 2}
			}
			rest /= 7
		}
		f(table(t, l...))
	}
}

// fairByWords tells whether x is fair, by pairs of two who hold one node.
func fairByWords(x handle.Table) bool {
	for i, a := range x.Descs {
		if a.Lock < 0 || a.Lock > 2 {
			return false
		}
		for j, b := range x.Descs {
			if i != j && a.Ino == b.Ino && a.Lock == flock.Exclusive && b.Lock != flock.None {
				return false
			}
		}
	}
	return true
}

// P11.1, P11.2, P11.3: all small tables, and all locks of them.
func TestAllSmallTablesAgainstASecondWay(t *testing.T) {
	seen := 0
	for n := range 5 {
		everyTable(t, n, func(x handle.Table) {
			is := fairByWords(x)
			fair(t, x, is)
			if !is {
				return
			}
			seen++
			for i := -1; i <= n; i++ {
				for kind := -1; kind <= 3; kind++ {
					both(t, x, i, kind)
				}
			}
		})
	}
	if seen < 500 {
		t.Error("only so many fair ones: ", seen)
	}
}

// P11.1, P11.2, P11.3: long rows of locks, and of what handle does with a table:
// who opens holds nothing, and whose last descriptor is closed holds nothing more.
func TestLongRowsAgainstASecondWay(t *testing.T) {
	answers := map[api.Errno]int{}
	for seed := range 200 {
		r := rand.New(rand.NewSource(int64(seed)))
		x := handle.New(1 + r.Intn(8))
		for range 200 {
			p, fd := r.Intn(len(x.Fds)), r.Intn(8)
			switch r.Intn(9) {
			case 0, 1:
				x, _, _ = handle.Open(x, p, desc{Ino: r.Intn(4), Read: true})
			case 2:
				x, _, _ = handle.Dup(x, p, fd)
			case 3:
				x, _, _ = handle.Close(x, p, fd)
			default:
				var e api.Errno
				x, e = both(t, x, r.Intn(len(x.Descs)+2)-1, r.Intn(5)-1)
				answers[e]++
			}
			if !flock.Fair(x) {
				t.Fatal(x)
			}
		}
	}
	for _, e := range []api.Errno{api.OK, api.ErrArg, api.ErrBad, api.ErrAgain} {
		if answers[e] < 100 {
			t.Error("only so many of that answer: ", e, answers[e])
		}
	}
}

// P11.3: who was kept out gets in, when all others of the node let go; and who
// asks Shared, when the one who has it exclusive lets go, or shares.
func TestWhoLetsGoLetsOthersIn(t *testing.T) {
	everyTable(t, 3, func(x handle.Table) {
		if !flock.Fair(x) {
			return
		}
		for i := range x.Descs {
			for kind := flock.Shared; kind <= flock.Exclusive; kind++ {
				if _, e := flock.Lock(x, i, kind); e == api.ErrAgain {
					letsIn(t, x, i, kind)
				}
			}
		}
	})
}

// letsIn holds that i, who is kept out, is kept out until the last one of those
// in its way lets go, and gets in then.
func letsIn(t *testing.T, x handle.Table, i, kind int) {
	t.Helper()
	e := api.ErrAgain
	for j, y := range x.Descs {
		if j == i || y.Ino != x.Descs[i].Ino || y.Lock == flock.None {
			continue
		}
		if e != api.ErrAgain {
			t.Fatalf("%d gets in at %s, before %d lets go", i, told(x), j)
		}
		x, e = flock.Lock(x, j, flock.None)
		if e != api.OK {
			t.Fatalf("%d can't let go of %s: %d", j, told(x), e)
		}
		_, e = flock.Lock(x, i, kind)
	}
	locks(t, x, i, kind, api.OK)
}

// P11.3: an exclusive one that shares lets in who shares, and nobody else.
func TestWhoSharesLetsOthersShare(t *testing.T) {
	x := held(t, flock.Exclusive, flock.None, flock.None)
	locks(t, x, 1, flock.Shared, api.ErrAgain)
	x, _ = flock.Lock(x, 0, flock.Shared)
	locks(t, x, 1, flock.Exclusive, api.ErrAgain)
	locks(t, x, 1, flock.Shared, api.OK)
	x, _ = flock.Lock(x, 1, flock.Shared)
	locks(t, x, 0, flock.Exclusive, api.ErrAgain) // now it shares with another one
	x, _ = flock.Lock(x, 1, flock.None)
	locks(t, x, 0, flock.Exclusive, api.OK)
}

// P11.3: who closes lets go, but only with the last descriptor.
func TestWhoClosesLetsGo(t *testing.T) {
	x, _, _ := handle.Open(handle.New(2), 0, desc{Ino: 3})
	x, _, _ = handle.Open(x, 1, desc{Ino: 3})
	x, _, _ = handle.Dup(x, 0, 0)
	x, e := flock.Lock(x, 0, flock.Exclusive)
	if e != api.OK {
		t.Fatal(e)
	}
	for fd := range 2 {
		locks(t, x, 1, flock.Shared, api.ErrAgain)
		locks(t, x, 1, flock.Exclusive, api.ErrAgain)
		x, _, _ = handle.Close(x, 0, fd)
	}
	holders(t, x, 3, 0, 0)
	locks(t, x, 0, flock.None, api.ErrBad)
	locks(t, x, 1, flock.Shared, api.OK)
	locks(t, x, 1, flock.Exclusive, api.OK)
}

// Of two who ask for one node exclusive, whoever comes first, one gets it.
func TestOneOfTwoGetsIt(t *testing.T) {
	for first := range 2 {
		x, a := flock.Lock(held(t, 0, 0), first, flock.Exclusive)
		x, b := flock.Lock(x, 1-first, flock.Exclusive)
		if got := fmt.Sprint(a, b); got != fmt.Sprint(api.OK, api.ErrAgain) {
			t.Error(first, got)
		}
		holders(t, x, 5, 0, 1)
	}
}
