package sweep_test

import (
	"fmt"
	"strings"
	"testing"

	"flagstone/api"
	"flagstone/job"
	"flagstone/kernel"
	"flagstone/sweep"
)

// drawing tells numbers that look drawn, the same ones for each seed.
func drawing(seed uint64) func(n int) int {
	return func(n int) int {
		seed = seed*6364136223846793005 + 1442695040888963407
		return int(seed>>33) % n
	}
}

// second is rm by a second way: one that waits for what it is told, and calls
// itself for what stands beneath.
type second struct {
	path        string
	deep, force bool
	tries       int
	ask         func(call) reply
}

func (s *second) argv() texts {
	var l texts
	if s.deep {
		l = append(l, "-r")
	}
	if s.force {
		l = append(l, "-f")
	}
	return append(l, "--", s.path)
}

func (s *second) run() string {
	if e := s.gone(-1, s.path, s.force); e != api.OK {
		return fmt.Sprintf("%s: error %d", s.path, e)
	}
	return ""
}

// gone removes the name in the directory fd, and all that stands beneath.
func (s *second) gone(fd int, name string, mayLack bool) api.Errno {
	for isDir := false; ; {
		if !isDir {
			e := s.ask(unlink(fd, name)).E
			if e == api.ErrNone && mayLack {
				e = api.OK
			}
			if e != api.ErrIsDir || !s.deep {
				return e
			}
		}
		again, e := s.goneDir(fd, name, mayLack)
		if !again {
			return e
		}
		s.tries++
		if s.tries > 3 {
			return api.ErrTries
		}
		isDir = e == api.ErrFull
	}
}

// goneDir removes the directory of that name, or tells that it is to be tried again.
func (s *second) goneDir(fd int, name string, mayLack bool) (bool, api.Errno) {
	r := s.ask(open(fd, name))
	if r.E != api.OK {
		if r.E == api.ErrNone && mayLack {
			return false, api.OK
		}
		return r.E == api.ErrNotDir || r.E == api.ErrLoop, r.E
	}
	l := s.ask(list(r.N))
	if l.E != api.OK {
		return false, l.E
	}
	for _, x := range l.L {
		if e := s.gone(r.N, x, true); e != api.OK {
			return false, e
		}
	}
	s.ask(shut(r.N))
	e := s.ask(rmdir(fd, name)).E
	if e == api.ErrNone {
		e = api.OK
	}
	return e == api.ErrFull, e
}

// holds runs a job and the second way beside each other, by the replies that
// answer tells, and tells how many calls that took.
func holds(t *testing.T, s *second, answer func(c call) reply) int {
	t.Helper()
	j, calls := sweep.Start(2, s.argv(), nil), 0
	s.tries = 0
	s.ask = func(c call) reply {
		if got := sweep.Ask(j); got != c || j.Done {
			t.Fatalf("%q asks %+v, not %+v: %+v", s.argv(), got, c, j)
		}
		r := answer(c)
		j, calls = sweep.Tell(j, r), calls+1
		return r
	}
	out := s.run()
	exit := 0
	if out != "" {
		exit = 1
	}
	if !j.Done || j.Out != out || j.Exit != exit || exit == 0 && (j.E != 0 || len(j.Stack) > 0) || exit == 1 && !strings.HasSuffix(out, fmt.Sprint(" ", int(j.E))) {
		t.Fatalf("%q: %q, not %+v", s.argv(), out, j)
	}
	if j.Tries != min(s.tries, 3) || j.Kind != job.Sweep || j.P != 2 || j.Path != s.path {
		t.Fatalf("%q: %+v", s.argv(), j)
	}
	return calls
}

// replies that a call of each kind may get; the first one leads on to an end.
func replies(kind int) []reply {
	switch kind {
	case kernel.Unlink:
		return []reply{{}, not(5), not(2), not(7)}
	case kernel.Open:
		return []reply{{N: 3}, not(2), not(4), not(8), not(5)}
	case kernel.List:
		return []reply{{}, {L: texts{"x"}}, {L: texts{"x", "y"}}, not(12)}
	case kernel.Close:
		return []reply{{}, not(12)}
	}
	return []reply{{}, not(2), not(6), not(7)}
}

// P17.2: all rows of replies, up to a length, against the second way.
func TestAllReplies(t *testing.T) {
	for _, s := range []second{{path: "a"}, {path: "a", force: true}, {path: "a/b/", deep: true}, {path: "/a", deep: true, force: true}} {
		runs, longest := 0, 0
		for taken := []int{}; ; {
			var wide []int
			calls := holds(t, &s, func(c call) reply {
				at := len(wide)
				if at == len(taken) {
					taken = append(taken, 0)
				}
				l := replies(c.Kind)
				if at >= 12 {
					l = l[:1]
				}
				wide = append(wide, len(l))
				return l[taken[at]]
			})
			runs++
			longest = max(longest, calls)
			taken = taken[:calls]
			for n := len(taken); n > 0 && taken[n-1] == wide[n-1]-1; n-- {
				taken = taken[:n-1]
			}
			if len(taken) == 0 {
				break
			}
			taken[len(taken)-1]++
		}
		if s.deep && (runs < 20000 || longest < 25) || !s.deep && runs != 4 {
			t.Error(s, runs, longest)
		}
	}
}

// P17.2: long rows of replies, by draws, against the second way.
func TestManyReplies(t *testing.T) {
	draw := drawing(17)
	most := 0
	for row := range 20000 {
		s := second{path: []string{"a", "/a//b", "../x/", "-r", "/"}[draw(5)], deep: draw(9) > 0, force: draw(2) == 0}
		calm, fd, left := 2+draw(40), row, 60
		most = max(most, holds(t, &s, func(c call) reply {
			if draw(calm) == 0 {
				e := not(errnos[draw(len(errnos))])
				if draw(2) == 0 {
					e = not([]api.Errno{2, 4, 5, 6, 8}[draw(5)])
				}
				if c.Kind != kernel.Open && c.Kind != kernel.List || e.E != 0 {
					return e
				}
			}
			left--
			switch {
			case c.Kind == kernel.Unlink && (draw(2) == 0 || c.Fd < 0) && left > 0:
				return not(api.ErrIsDir)
			case c.Kind == kernel.Open:
				fd += 3
				return reply{N: fd % 1000}
			case c.Kind == kernel.List && left > 0:
				return reply{L: texts{"x", "y", "a b", "-f", ".."}[:draw(6)]}
			}
			return reply{}
		}))
	}
	if most < 100 {
		t.Error(most)
	}
}
