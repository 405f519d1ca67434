package proc_test

import (
	"testing"

	"flagstone/api"
	"flagstone/disk"
	"flagstone/kernel"
	"flagstone/proc"
)

// rounds tells steps of yard's processes, some of which go wrong, and that
// hang on those ahead of them.
func rounds() []step {
	return []step{
		{0, with("n", 7)}, {1, at(kernel.Stat, "/n")}, {0, call{Kind: kernel.Write, Data: "hello"}}, {2, with("n", 1)}, {0, with("x/y", 1)},
		{1, with("/n", 1)}, {1, call{Kind: kernel.Read, N: 4}}, {1, call{Kind: kernel.Read, N: 4}}, {9, with("n", 1)}, {1, call{Kind: kernel.Read, N: 4}},
		{0, with(".", 1)}, {0, call{Kind: kernel.List, Fd: 1}}, {0, at(kernel.Unlink, "n")}, {0, call{Kind: kernel.List, Fd: 1}}, {1, at(kernel.Stat, "/n")},
		{1, lock(0, 2)}, {0, lock(0, 1)}, {0, call{Kind: 18}}, {0, at(kernel.Readlink, "l")}, {0, call{Kind: kernel.Dup}},
	}
}

// answered tells the replies to rounds, of yard.
func answered() []reply {
	stat := kernel.Info{Ino: 4, Kind: disk.File, Mode: 63, Owner: 3, Links: 1}
	return []reply{
		{}, {I: stat}, {N: 5}, {E: api.ErrArg}, {E: api.ErrNone},
		{}, {S: "hell"}, {S: "o"}, {E: api.ErrArg}, {},
		{N: 1}, {L: []string{"a", "f", "l", "n"}}, {}, {L: []string{"a", "f", "l"}}, {E: api.ErrNone},
		{}, {E: api.ErrAgain}, {E: api.ErrArg}, {S: "a"}, {N: 2},
	}
}

// P13.4: each step, in order, of what the one ahead left; a reply to each, also
// to those that went wrong.
func TestPlay(t *testing.T) {
	k := own(yard(t))
	before := whole(k)
	l := rounds()
	got, replies := proc.Play(k, l)
	if told(replies) != told(answered()) {
		t.Errorf("got\n%+v\nwant\n%+v", replies, answered())
	}
	want := edit(k, func(k *kernel.Kernel) {
		k.D.Nodes[4] = disk.Node{Kind: disk.File, Mode: 63, Owner: 3, Open: 2, Data: "hello"}
		k.D.Nodes[0].Open = 2
		k.T.Descs = []desc{{Ino: 4, At: 5, Read: true, Write: true, Refs: 2}, {Ino: 4, At: 5, Read: true, Refs: 1, Lock: 2}, {Ino: 0, Read: true, Refs: 1}}
		copy(k.T.Fds[0], []int{0, 2, 0})
		k.T.Fds[1][0] = 1
	})
	same(t, right(t, got), want)
	if whole(k) != before || told(l) != told(rounds()) {
		t.Error("Play changes what it is handed")
	}
}

// P13.4: some of the steps, and the rest of them, are all of them.
func TestPlayInParts(t *testing.T) {
	all, replies := proc.Play(yard(t), rounds())
	for i := range len(rounds()) + 1 {
		k, l := proc.Play(yard(t), rounds()[:i])
		if len(l) != i {
			t.Errorf("%d replies to %d steps", len(l), i)
		}
		k, m := proc.Play(k, rounds()[i:])
		same(t, k, all)
		if told(append(l, m...)) != told(replies) {
			t.Errorf("%d: %+v, %+v; want %+v", i, l, m, replies)
		}
	}
}

// P13.4: without steps there are no replies.
func TestPlayNothing(t *testing.T) {
	for _, l := range [][]step{nil, {}} {
		k, r := proc.Play(yard(t), l)
		same(t, k, yard(t))
		if len(r) != 0 {
			t.Error(told(r))
		}
	}
}

// P13.4: who goes wrong changes nothing, whoever it is; the next one has his turn.
func TestPlayOfWhoIsNotLive(t *testing.T) {
	for _, p := range append([]int{2, 3, 7, 8}, far...) {
		l := []step{{p, with("n", 6)}, {p, at(kernel.Mkdir, "m")}, {0, at(kernel.Chdir, "f")}, {p, call{}}}
		k, r := proc.Play(yard(t), l)
		same(t, k, yard(t))
		if want := []reply{{E: api.ErrArg}, {E: api.ErrArg}, {E: api.ErrNotDir}, {E: api.ErrArg}}; told(r) != told(want) {
			t.Errorf("%d: %+v", p, r)
		}
		if _, r = proc.Play(yard(t), append(l, step{0, at(kernel.Mkdir, "m")})); len(r) != 5 || r[4].E != api.OK {
			t.Errorf("%d: %+v", p, r)
		}
	}
}

// P13.4: many steps, where there is no descriptor left, and no room.
func TestPlayManySteps(t *testing.T) {
	l := make([]step, 0, 120)
	for range 60 {
		l = append(l, step{0, with("f", 3)}, step{0, call{Kind: kernel.Write, Data: "xyz"}})
	}
	k, r := proc.Play(yard(t), l)
	if len(r) != 120 || len(right(t, k).D.Nodes[2].Data) != 87 || k.D.Nodes[2].Open != 8 {
		t.Errorf("%d replies: %+v", len(r), k)
	}
	for i, x := range r {
		want := reply{N: i / 2}
		switch {
		case i%2 == 1 && i/2 < 29:
			want = reply{N: 3}
		case i%2 == 1:
			want = reply{E: api.ErrSpace}
		case i/2 >= 8:
			want = reply{E: api.ErrMany}
		}
		if told(x) != told(want) {
			t.Errorf("%d: %+v; want %+v", i, x, want)
		}
	}
}

// P13.4: the replies are nobody else's.
func TestRepliesAreNew(t *testing.T) {
	l := []step{{0, with(".", 1)}, {0, call{Kind: kernel.List}}, {0, call{Kind: kernel.List}}}
	k, r := proc.Play(yard(t), l)
	r[1].L[0] = "x"
	if r[2].L[0] != "a" {
		t.Error("two replies share a list")
	}
	r[0].N = 7
	if _, s := proc.Play(k, l[1:]); told(s) != told([]reply{{L: []string{"a", "f", "l"}}, {L: []string{"a", "f", "l"}}}) {
		t.Error(told(s))
	}
}
