package handle_test

import (
	"fmt"
	"math/rand"
	"slices"
	"testing"

	"flagstone/api"
	"flagstone/handle"
)

// file is what is open by the second way: who refers to it holds a pointer.
type file struct {
	ino, at     int
	read, write bool
	lock        int
}

// world is a table by the second way: how many refer to a file is not kept, but
// looked for.
type world struct {
	places []*file
	procs  []map[int]*file
}

func made(procs int) *world {
	w := &world{}
	for range procs {
		w.procs = append(w.procs, map[int]*file{})
	}
	return w
}

func (w *world) refs(f *file) int {
	n := 0
	for _, p := range w.procs {
		for _, g := range p {
			if g == f {
				n++
			}
		}
	}
	return n
}

// desc tells f as a description.
func (w *world) desc(f *file) desc {
	return desc{Ino: f.ino, At: f.at, Read: f.read, Write: f.write, Lock: f.lock, Refs: w.refs(f)}
}

// table tells w as the program has it.
func (w *world) table() handle.Table {
	var x handle.Table
	place := map[*file]int{}
	for i, f := range w.places {
		x.Descs = append(x.Descs, desc{})
		if f != nil {
			x.Descs[i] = w.desc(f)
			place[f] = i
		}
	}
	for _, p := range w.procs {
		l := row()
		for fd, f := range p {
			l[fd] = place[f]
		}
		x.Fds = append(x.Fds, l)
	}
	return x
}

func (w *world) hold(p int, f *file) (int, api.Errno) {
	for fd := 0; fd < 8; fd++ {
		if _, taken := w.procs[p][fd]; !taken {
			w.procs[p][fd] = f
			return fd, api.OK
		}
	}
	return 0, api.ErrMany
}

func (w *world) open(p int, d desc) (int, api.Errno) {
	if p < 0 || p >= len(w.procs) {
		return 0, api.ErrArg
	}
	f := &file{d.Ino, d.At, d.Read, d.Write, d.Lock}
	fd, e := w.hold(p, f)
	if e != api.OK {
		return 0, e
	}
	for i := range w.places {
		if w.places[i] == nil {
			w.places[i] = f
			return fd, e
		}
	}
	w.places = append(w.places, f)
	return fd, e
}

func (w *world) dup(p, fd int) (int, api.Errno) {
	if p < 0 || p >= len(w.procs) || w.procs[p][fd] == nil {
		return 0, api.ErrBad
	}
	return w.hold(p, w.procs[p][fd])
}

func (w *world) close(p, fd int) (desc, api.Errno) {
	if p < 0 || p >= len(w.procs) || w.procs[p][fd] == nil {
		return desc{}, api.ErrBad
	}
	f := w.procs[p][fd]
	delete(w.procs[p], fd)
	d := w.desc(f)
	for i := range w.places {
		if d.Refs == 0 && w.places[i] == f {
			w.places[i] = nil
		}
	}
	return d, api.OK
}

func (w *world) set(i int, d desc) {
	if i >= 0 && i < len(w.places) && w.places[i] != nil {
		*w.places[i] = file{d.Ino, d.At, d.Read, d.Write, d.Lock}
	}
}

// deed is one call, by its kind: 0 Open, 1 Dup, 2 Close, 3 Set.
type deed struct {
	kind, p, fd int
	d           desc
}

// do does x both ways, and holds what they tell, and P10.4, against each other.
func (x deed) do(t *testing.T, a handle.Table, w *world) handle.Table {
	t.Helper()
	before := told(a)
	b, got, want := a, "", ""
	switch x.kind {
	case 0:
		var n int
		var e api.Errno
		b, n, e = handle.Open(a, x.p, x.d)
		m, f := w.open(x.p, x.d)
		got, want = fmt.Sprint(n, e), fmt.Sprint(m, f)
	case 1:
		var n int
		var e api.Errno
		b, n, e = handle.Dup(a, x.p, x.fd)
		m, f := w.dup(x.p, x.fd)
		got, want = fmt.Sprint(n, e), fmt.Sprint(m, f)
	case 2:
		var n desc
		var e api.Errno
		b, n, e = handle.Close(a, x.p, x.fd)
		m, f := w.close(x.p, x.fd)
		got, want = fmt.Sprint(n, e), fmt.Sprint(m, f)
	case 3:
		b = handle.Set(a, x.fd, x.d)
		w.set(x.fd, x.d)
	}
	if got != want || told(b) != told(w.table()) {
		t.Fatalf("%+v of %s: %s, %s; want %s, %s", x, before, got, told(b), want, told(w.table()))
	}
	if told(a) != before {
		t.Fatalf("%+v changes what is handed in", x)
	}
	if !handle.Right(b) || !byWords(b) {
		t.Fatalf("%+v of %s: %s is not right", x, before, told(b))
	}
	return b
}

// look holds what Get and Count tell of a against w.
func look(t *testing.T, a handle.Table, w *world) {
	t.Helper()
	for p := -1; p <= len(w.procs); p++ {
		n := 0
		for fd := -1; fd <= 8; fd++ {
			i, d, is := -1, desc{}, p >= 0 && p < len(w.procs) && w.procs[p][fd] != nil
			if is {
				n++
				i, d = slices.Index(w.places, w.procs[p][fd]), w.desc(w.procs[p][fd])
			}
			if j, x, open := handle.Get(a, p, fd); j != i || x != d || open != is {
				t.Fatalf("Get(%d, %d) = %d, %+v, %v of %s", p, fd, j, x, open, told(a))
			}
		}
		if m := handle.Count(a, p); m != n {
			t.Fatalf("Count(%d) = %d of %s", p, m, told(a))
		}
	}
}

// drawn draws a description; its Refs may be anything.
func drawn(r *rand.Rand) desc {
	return desc{r.Intn(5) - 1, r.Intn(5) - 1, r.Intn(2) == 0, r.Intn(2) == 0, r.Intn(5) - 1, r.Intn(5) - 1}
}

// P10.2, P10.3, P10.4: all rows of four calls of two processes.
func TestShortRowsAgainstASecondWay(t *testing.T) {
	var kinds []deed
	for p := range 2 {
		kinds = append(kinds, deed{kind: 0, p: p, d: desc{Ino: 5 + p, Lock: p}})
		for fd := range 2 {
			kinds = append(kinds, deed{kind: 1, p: p, fd: fd}, deed{kind: 2, p: p, fd: fd})
		}
	}
	kinds = append(kinds, deed{kind: 3, fd: 0, d: desc{Ino: 9, At: 9, Refs: 9}})
	n := len(kinds)
	for i := range n * n * n * n {
		a, w := handle.New(2), made(2)
		for _, k := range []int{i / (n * n * n), i / (n * n) % n, i / n % n, i % n} {
			a = kinds[k].do(t, a, w)
		}
		look(t, a, w)
	}
}

// P10.2, P10.3, P10.4: long rows of calls of many processes.
func TestLongRowsAgainstASecondWay(t *testing.T) {
	for seed := range 300 {
		r := rand.New(rand.NewSource(int64(seed)))
		procs := 1 + r.Intn(8)
		a, w := handle.New(procs), made(procs)
		kinds := [][]int{{0, 0, 1, 2, 3}, {0, 1, 2, 3}, {0, 1, 2, 2, 2, 3}, {0, 1, 1, 2, 2, 2, 2, 2, 3}}[seed%4] // from much open to little
		for range 150 {
			a = deed{kinds[r.Intn(len(kinds))], r.Intn(procs+2) - 1, r.Intn(10) - 1, drawn(r)}.do(t, a, w)
		}
		look(t, a, w)
	}
}

// P10.4: who opens, and closes what he opened, has what he had; others, too.
func TestOpenAndCloseLeaveWhatWas(t *testing.T) {
	for p := range 2 {
		for start := range 9 {
			x := handle.New(2)
			for n := range start {
				x, _, _ = handle.Open(x, p, desc{Ino: n, At: 3 * n})
			}
			if start > 2 {
				x, _, _ = handle.Close(x, p, start/2)
			}
			leaves(t, x, p)
			leaves(t, x, 1-p)
		}
	}
	x := some(t)
	for _, p := range []int{0, 1, 3} {
		leaves(t, x, p)
	}
}

// leaves holds that p has what it had, when it has opened as much as it may,
// and some of it once more, and has closed all that.
func leaves(t *testing.T, x handle.Table, p int) {
	t.Helper()
	y := x
	var opened []int
	for {
		z, fd, e := handle.Open(y, p, desc{Ino: 50 + len(opened), Read: true})
		if e != api.OK {
			break
		}
		y, opened = z, append(opened, fd)
		if z, more, e := handle.Dup(y, p, fd); e == api.OK {
			y, opened = z, append(opened, more)
		}
	}
	for _, fd := range opened {
		z, d, e := handle.Close(y, p, fd)
		if e != api.OK || d.Ino < 50 {
			t.Errorf("Close(%d, %d) = %+v, %d", p, fd, d, e)
		}
		y = z
	}
	if fmt.Sprint(y.Fds) != fmt.Sprint(x.Fds) || fmt.Sprint(y.Descs[:len(x.Descs)]) != fmt.Sprint(x.Descs) || !handle.Right(y) {
		t.Errorf("%d had %s, has %s", p, told(x), told(y))
	}
	for _, d := range y.Descs[len(x.Descs):] {
		if d != (desc{}) {
			t.Errorf("%d leaves %+v", p, d)
		}
	}
}
