package job_test

import (
	"fmt"
	"slices"
	"testing"

	"flagstone/api"
	"flagstone/job"
)

// drawing tells numbers that look drawn, the same ones for each seed.
func drawing(seed uint64) func(n int) int {
	return func(n int) int {
		seed = seed*6364136223846793005 + 1442695040888963407
		return int(seed>>33) % n
	}
}

// chain is a second way to hold a stack: a frame that leads to the one beneath it.
type chain struct {
	f     frame
	under *chain
}

// frames tells the chain from the lowest frame on.
func (c *chain) frames() []frame {
	if c == nil {
		return nil
	}
	return append(c.under.frames(), c.f)
}

// both are a job, and what it should be: the chain for the stack, and the rest.
type both struct {
	j    Job
	c    *chain
	rest Job
}

func (b both) want() Job {
	w := b.rest
	w.Stack = b.c.frames()
	return w
}

// step takes b on by one call.
func step(t *testing.T, b both, draw func(int) int) both {
	switch draw(8) {
	case 0, 1, 2:
		f := frame{Fd: draw(9) - 1, Name: odd[draw(len(odd))], Names: slices.Clone(odd[:draw(4)])}
		b.j, b.c = job.Push(b.j, f), &chain{f, b.c}
	case 3:
		b.j = job.Pop(b.j)
		if b.c != nil {
			b.c = b.c.under
		}
	case 4, 5:
		b.j = job.Trim(b.j)
		if b.c != nil && len(b.c.f.Names) > 0 {
			f := b.c.f
			f.Names = f.Names[1:]
			b.c = &chain{f, b.c.under}
		}
	case 6:
		b = stepRest(t, b, draw)
	case 7:
		f, there := job.Top(b.j)
		if there != (b.c != nil) || there && !sameFrame(f, b.c.f) || !there && !sameFrame(f, frame{}) {
			t.Fatal(f, there, b.c)
		}
	}
	return b
}

// stepRest is step of what does not look at the stack.
func stepRest(t *testing.T, b both, draw func(int) int) both {
	path := odd[draw(len(odd))]
	switch draw(4) {
	case 0:
		b.j = job.End(b.j, path)
		b.rest.Done, b.rest.Exit, b.rest.Out = true, 0, path
	case 1:
		e := api.Errno(draw(40))
		b.j = job.Fail(b.j, path, e)
		b.rest.Done, b.rest.Exit, b.rest.E, b.rest.Out = true, 1, e, fmt.Sprint(path, ": error ", int(e))
	case 2:
		var may bool
		b.j, may = job.Again(b.j, path)
		if may != (b.rest.Tries < 3) {
			t.Fatal(may, b.rest)
		}
		if may {
			b.rest.Tries++
		} else {
			b.rest.Done, b.rest.Exit, b.rest.E, b.rest.Out = true, 1, 32, path+": error 32"
		}
	case 3:
		n := draw(6) - 1
		var got []int
		got, b.j = job.Draw(b.j, n)
		if want := drawn(b.rest.Draws, b.rest.At, n); !slices.Equal(got, want) {
			t.Fatal(got, want)
		}
		b.rest.At += n
		if b.rest.At < 0 { // of which nothing is said
			b.j.At, b.rest.At = 0, 0
		}
	}
	return b
}

// P15.1 to P15.5: long rows of calls, each from any job that came before, tell
// what the second way does, and leave all jobs that came before as they were.
func TestSecondWay(t *testing.T) {
	for seed := range uint64(60) {
		draw := drawing(seed)
		draws := []int{5, 35, 0, 7, 12}[:draw(6)]
		first := job.New(1+draw(9), draw(8), draws)
		all := []both{{first, nil, Job{Kind: first.Kind, P: first.P, Fd: -1, Draws: draws}}}
		for range 150 {
			from := all[max(0, len(all)-1-draw(4))]
			all = append(all, step(t, from, draw))
		}
		for i, b := range all {
			is(t, fmt.Sprint("job ", i, " of ", seed), b.j, b.want())
			other := all[draw(len(all))]
			if job.Same(b.j, other.j) != alike(b.want(), other.want()) {
				t.Fatal("Same", b.j, other.j)
			}
		}
	}
}
