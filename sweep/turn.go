package sweep

import (
	"flagstone/api"
	"flagstone/job"
	"flagstone/kernel"
)

// turn is a job at work, and the reply to what it asked.
type turn struct {
	j job.Job
	r kernel.Reply
}

// tellers tells what tells the job behind the reply, by its phase.
func (t turn) tellers() map[int]func() job.Job {
	return map[int]func() job.Job{
		unlinking: t.unlinked,
		opening:   t.opened,
		listing:   t.listed,
		closing:   t.closed,
		removing:  t.removed,
	}
}

func (t turn) unlinked() job.Job {
	switch t.r.E {
	case api.ErrIsDir:
		if !t.has(deep) {
			return t.fail()
		}
		return in(opening, t.j)
	case api.ErrNone:
		if !t.mayLack() {
			return t.fail()
		}
		fallthrough
	case api.OK:
		return doneWithIt(t.j)
	}
	return t.fail()
}

func (t turn) opened() job.Job {
	switch t.r.E {
	case api.OK:
		f := job.Frame{Fd: t.r.N, Name: what(t.j)}
		return in(listing, job.Push(t.j, f))
	case api.ErrNone:
		if t.mayLack() {
			return doneWithIt(t.j)
		}
	case api.ErrNotDir, api.ErrLoop: // somebody laid another thing there since
		return anew(unlinking, t.j)
	}
	return t.fail()
}

func (t turn) listed() job.Job {
	if t.r.E != api.OK {
		return t.fail()
	}
	f, _ := job.Top(t.j)
	f.Names = t.r.L
	return goOn(job.Push(job.Pop(t.j), f))
}

func (t turn) closed() job.Job { return in(removing, t.j) }

func (t turn) removed() job.Job {
	above := job.Pop(t.j)
	switch t.r.E {
	case api.OK, api.ErrNone:
		return doneWithIt(above)
	case api.ErrFull: // somebody put something there since
		return anew(opening, above)
	}
	return t.fail()
}

// has tells whether the job has that flag.
func (t turn) has(flag int) bool { return t.j.Flags&flag != 0 }

// mayLack tells whether it is well if nothing is there: what was listed may be
// gone by now, what the job was told to remove only by force.
func (t turn) mayLack() bool {
	_, inside := job.Top(t.j)
	return inside || t.has(force)
}

// fail tells the job, failed with what the reply says.
func (t turn) fail() job.Job { return job.Fail(t.j, t.j.Path, t.r.E) }

// in tells j in that phase.
func in(phase int, j job.Job) job.Job {
	j.Phase = phase
	return j
}

// doneWithIt tells j behind the thing that is gone now.
func doneWithIt(j job.Job) job.Job {
	if _, inside := job.Top(j); !inside {
		return job.End(j, "")
	}
	return goOn(job.Trim(j))
}

// goOn tells j at the next name of its last frame, or at the end of these.
func goOn(j job.Job) job.Job {
	if f, _ := job.Top(j); len(f.Names) > 0 {
		return in(unlinking, j)
	}
	return in(closing, j)
}

// anew tells j that begins anew in that phase, unless it has tried too often.
func anew(phase int, j job.Job) job.Job {
	j, may := job.Again(j, j.Path)
	if may {
		j.Phase = phase
	}
	return j
}
