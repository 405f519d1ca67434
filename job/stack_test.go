package job_test

import (
	"reflect"
	"slices"
	"strconv"
	"testing"

	"flagstone/job"
)

// frames are of all kinds.
func frames() []frame {
	return []frame{
		{}, {Fd: -1}, {Fd: 3, Name: "a"}, {Name: "b", Names: texts{}}, {Fd: 1, Names: texts{""}},
		{Fd: 1, Name: "c", Names: texts{"x"}}, {Fd: 7, Name: "d/e", Names: texts{"x", "y", "x"}}, {Fd: 2, Names: odd},
		{Fd: 2, Name: "g", Names: make(texts, 100)},
	}
}

func sameFrame(f, g frame) bool {
	f.Names, g.Names = flat(f.Names), flat(g.Names)
	return reflect.DeepEqual(f, g)
}

// P15.4: what is pushed stands behind the stack, and all else is as it was.
func TestPush(t *testing.T) {
	for _, j := range some() {
		for _, f := range frames() {
			j := own(j)
			f.Names = roomy(f.Names)
			before, names := whole(j), slices.Clone(f.Names)
			got := job.Push(j, f)
			want := j
			want.Stack = slices.Concat(j.Stack, []frame{f})
			is(t, "Push", got, want)
			if whole(j) != before || !slices.Equal(f.Names, names) {
				t.Error("changed", j, f)
			}
		}
	}
}

// P15.4: a popped job lacks its last frame; one without frames is as it is.
func TestPop(t *testing.T) {
	for _, j := range some() {
		j := own(j)
		before := whole(j)
		want := j
		if n := len(j.Stack); n > 0 {
			want.Stack = slices.Clone(j.Stack[:n-1])
		}
		is(t, "Pop", job.Pop(j), want)
		if whole(j) != before {
			t.Error("changed", j)
		}
	}
}

// P15.4: Top tells the last frame, or the zero one and false.
func TestTop(t *testing.T) {
	for _, j := range some() {
		j := own(j)
		before := whole(j)
		f, there := job.Top(j)
		if n := len(j.Stack); there != (n > 0) || !there && !reflect.DeepEqual(f, frame{}) || there && !sameFrame(f, j.Stack[n-1]) {
			t.Error(f, there, j)
		}
		if whole(j) != before {
			t.Error("changed", j)
		}
	}
}

// P15.4: Trim takes the first of the last frame's names; without any all is as it is.
func TestTrim(t *testing.T) {
	for _, j := range some() {
		for _, f := range frames() {
			j := own(j)
			j.Stack = roomy(append(j.Stack, f))
			before := whole(j)
			want := own(j)
			if last := &want.Stack[len(want.Stack)-1]; len(last.Names) > 0 {
				last.Names = slices.Delete(slices.Clone(last.Names), 0, 1)
			}
			is(t, "Trim", job.Trim(j), want)
			if whole(j) != before {
				t.Error("changed", j)
			}
		}
	}
	for _, j := range []Job{{}, {N: 4, Stack: []frame{}}, job.New(job.Clone, 1, []int{3})} {
		is(t, "Trim without a frame", job.Trim(j), j)
	}
}

// P15.4: frames beneath the last one keep their names.
func TestTrimTheLastAlone(t *testing.T) {
	j := full()
	for i := range 5 {
		f, _ := job.Top(j)
		if want := (texts{"d", "e", "f"})[min(i, 3):]; !slices.Equal(f.Names, want) || f.Fd != 2 || f.Name != "b" {
			t.Error(i, f)
		}
		if !slices.Equal(j.Stack[0].Names, texts{"b", "c"}) {
			t.Error(i, j)
		}
		j = job.Trim(j)
	}
}

// P15.4: what a caller does with a frame's names later on touches no job.
func TestFramesKeepNothing(t *testing.T) {
	names := roomy(texts{"x", "y", "z"})
	j := job.Push(job.New(job.Sweep, 0, nil), frame{Fd: 1, Names: names[:2]})
	names[0], names[2] = "q", "r"
	f, _ := job.Top(j)
	if !slices.Equal(f.Names, texts{"x", "y"}) {
		t.Error(f)
	}
	f.Names[1] = "s"
	_ = append(f.Names, "t")
	if g, _ := job.Top(j); !slices.Equal(g.Names, texts{"x", "y"}) {
		t.Error(g)
	}
	j.Stack[0].Names[0] = "u"
	if !slices.Equal(names, texts{"q", "y", "r"}) {
		t.Error(names)
	}
}

// P15.4: two jobs that come from one have stacks of their own, whoever is pushed first.
func TestTwoWaysOn(t *testing.T) {
	for deep := range 20 {
		j := job.New(job.Sweep, 0, nil)
		for i := range deep {
			j = job.Push(j, frame{Fd: i, Names: texts{"x", "y"}})
		}
		a := job.Push(j, frame{Fd: 100, Name: "a"})
		b := job.Push(j, frame{Fd: 200, Name: "b"})
		c := job.Push(job.Pop(a), frame{Fd: 300, Name: "c"})
		d := job.Push(job.Trim(job.Pop(a)), frame{Fd: 400, Name: "d"})
		e := job.Push(job.End(j, ""), frame{Fd: 500, Name: "e"})
		for want, k := range map[int]Job{100: a, 200: b, 300: c, 400: d, 500: e} {
			if f, there := job.Top(k); !there || f.Fd != want || len(k.Stack) != deep+1 {
				t.Error(deep, want, f)
			}
		}
		if !job.Same(job.Pop(a), j) || !job.Same(job.Pop(b), j) || !job.Same(job.Pop(c), j) {
			t.Error(deep, "popped")
		}
	}
}

// P15.4: whoever appends to an answered job's stack writes over no other one's.
func TestNoRoomBehind(t *testing.T) {
	j := own(full())
	before := whole(j)
	popped := job.Pop(j)
	_ = append(popped.Stack, frame{Fd: 99})
	trimmed := job.Trim(j)
	_ = append(trimmed.Stack, frame{Fd: 99})
	pushed := job.Push(j, frame{Fd: 98})
	_ = append(pushed.Stack, frame{Fd: 99})
	if whole(j) != before {
		t.Error("changed", j)
	}
}

// P15.5: what was pushed is on top, and popped, all is as it was.
func TestWhatFollows(t *testing.T) {
	for _, j := range some() {
		for _, f := range frames() {
			k := job.Push(own(j), f)
			if top, there := job.Top(k); !there || !sameFrame(top, f) {
				t.Error(top, f)
			}
			if !job.Same(job.Pop(k), j) || !alike(job.Pop(k), j) {
				t.Error(job.Pop(k), j)
			}
		}
	}
}

// P15.5: twenty frames come back in the other order.
func TestManyFrames(t *testing.T) {
	row := []Job{job.New(job.Clone, 3, []int{1})}
	for i := range 20 {
		row = append(row, job.Push(row[i], frame{Fd: i, Name: strconv.Itoa(i), Names: make(texts, i)}))
	}
	j := row[20]
	for i := 19; i >= 0; i-- {
		f, there := job.Top(j)
		if !there || f.Fd != i || f.Name != strconv.Itoa(i) || len(f.Names) != i {
			t.Error(i, f)
		}
		if j = job.Pop(j); !job.Same(j, row[i]) {
			t.Error(i, j)
		}
	}
	if _, there := job.Top(j); there {
		t.Error(j)
	}
}
