package ensure_test

import (
	"fmt"
	"strings"
	"testing"

	"flagstone/api"
	"flagstone/disk"
	"flagstone/ensure"
	"flagstone/kernel"
)

// drawing tells numbers that look drawn, the same ones for each seed.
func drawing(seed uint64) func(n int) int {
	return func(n int) int {
		seed = seed*6364136223846793005 + 1442695040888963407
		return int(seed>>33) % n
	}
}

// wish is what a job is told to make.
type wish struct {
	path string
	ups  bool
	mode int
}

func (w wish) argv() texts {
	var l texts
	if w.ups {
		l = append(l, "-p")
	}
	if w.mode != 63 {
		l = append(l, "-m", fmt.Sprintf("%o", w.mode))
	}
	return append(l, "--", w.path)
}

// heads are the path up to each of its parts, found by their last bytes.
func heads(path string) texts {
	var l texts
	for i := range len(path) {
		if path[i] != '/' && (i+1 == len(path) || path[i+1] == '/') {
			l = append(l, path[:i+1])
		}
	}
	return l
}

// second is mkdir by a second way: one that waits for what it is told.
func second(w wish, ask func(call) reply) (out string) {
	names := texts{w.path}
	if w.ups {
		names = heads(w.path)
	}
	for round := range 4 {
		name, e := oneRound(w, names, ask)
		switch {
		case e == api.OK:
			return ""
		case e != api.ErrNone || !w.ups:
			return fmt.Sprintf("%s: error %d", name, e)
		case round == 3:
			return name + ": error 32"
		}
	}
	return "never"
}

// oneRound goes through all names once, and tells the one at which it stopped.
func oneRound(w wish, names texts, ask func(call) reply) (string, api.Errno) {
	for _, name := range names {
		r := ask(mkdir(name, w.mode))
		if r.E == api.ErrExists && w.ups {
			r = ask(look(name))
			if r.E == api.OK && r.I.Kind != disk.Dir {
				r.E = api.ErrNotDir
			}
		}
		if r.E != api.OK {
			return name, r.E
		}
	}
	return "", api.OK
}

// holds runs a job and the second way beside each other, by the replies that
// answer tells, and tells how many calls that took.
func holds(t *testing.T, w wish, answer func(c call) reply) int {
	t.Helper()
	j, calls := ensure.Start(2, w.argv(), nil), 0
	out := second(w, func(c call) reply {
		if got := ensure.Ask(j); got != c || j.Done {
			t.Fatalf("%+v asks %+v, not %+v: %+v", w, got, c, j)
		}
		r := answer(c)
		j, calls = ensure.Tell(j, r), calls+1
		return r
	})
	exit := 0
	if out != "" {
		exit = 1
	}
	if !j.Done || j.Out != out || j.Exit != exit || exit == 1 && !strings.HasSuffix(out, fmt.Sprint(" ", int(j.E))) || exit == 0 && (j.E != 0 || len(j.Names) > 0 || j.Phase != 0) {
		t.Fatalf("%+v: %q, not %+v", w, out, j)
	}
	return calls
}

// replies that a Mkdir, and a Stat, may get.
var (
	ofMkdir = []reply{{}, not(api.ErrExists), not(api.ErrNone), not(api.ErrNotDir)}
	ofStat  = []reply{saw(disk.Dir), saw(disk.File), not(api.ErrNone), not(api.ErrExists)}
)

// P16.2, P16.3: all rows of replies, against the second way.
func TestAllReplies(t *testing.T) {
	for _, w := range []wish{{"a", false, 63}, {"a/b", false, 7}, {"/", false, 63}, {"a", true, 63}, {"/a//b/", true, 5}, {"/", true, 63}} {
		runs := 0
		for taken := []int{}; ; {
			at := 0
			calls := holds(t, w, func(c call) reply {
				if at == len(taken) {
					taken = append(taken, 0)
				}
				at++
				if c.Kind == kernel.Mkdir {
					return ofMkdir[taken[at-1]]
				}
				return ofStat[taken[at-1]]
			})
			runs++
			taken = taken[:calls]
			for len(taken) > 0 && taken[len(taken)-1] == 3 {
				taken = taken[:len(taken)-1]
			}
			if len(taken) == 0 {
				break
			}
			taken[len(taken)-1]++
		}
		if w.ups && len(heads(w.path)) == 2 && runs < 4000 || !w.ups && runs != 4 {
			t.Error(w, runs)
		}
	}
}

// P16.2, P16.3: long paths and replies by draws, against the second way.
func TestManyReplies(t *testing.T) {
	draw := drawing(16)
	most := 0
	for range 20000 {
		w := wish{ups: draw(4) > 0, mode: draw(64)}
		for w.path == "" || len(w.path) > 100 {
			w.path = strings.Repeat("/", draw(3))
			for range draw(12) {
				w.path += []string{"a", "..", "bc", ".", "-p", "x y"}[draw(6)] + strings.Repeat("/", 1+draw(2))
			}
			w.path += []string{"", "d"}[draw(2)]
		}
		most = max(most, holds(t, w, func(c call) reply {
			if draw(9) == 0 {
				return []reply{saw(disk.Link), not(api.ErrNone), not(api.ErrNone), not(errnos[draw(len(errnos))])}[draw(4)]
			}
			if c.Kind == kernel.Mkdir && draw(2) == 0 {
				return not(api.ErrExists)
			}
			return saw(disk.Dir)
		}))
	}
	if most < 50 {
		t.Error(most)
	}
}
