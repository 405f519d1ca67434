package kernel

import (
	"flagstone/api"
	"flagstone/disk"
	"flagstone/handle"
)

// allMode is the mode of all rights, the highest one.
const allMode = 63

// Right tells whether k is right: its disk, its table, its processes, and how
// often its nodes are open.
func Right(k Kernel) bool {
	if !disk.Right(k.D) || !handle.Right(k.T) {
		return false
	}
	if len(k.T.Fds) != api.MaxProcs || len(k.Procs) > api.MaxProcs {
		return false
	}
	for p := range api.MaxProcs {
		if !procRight(k, p) {
			return false
		}
	}
	return opensRight(k)
}

// procRight tells whether process p of k, live or not, there or not, is right.
func procRight(k Kernel, p int) bool {
	if !alive(k, p) {
		return handle.Count(k.T, p) == 0
	}
	at, is := disk.Get(k.D, k.Procs[p].Cwd)
	umask := k.Procs[p].Umask
	return is && at.Kind == disk.Dir && umask >= 0 && umask <= allMode
}

// opensRight tells whether all that is open in k is a node, and each node is
// open as often as it says. The processes of k are right.
func opensRight(k Kernel) bool {
	opens := make([]int, len(k.D.Nodes))
	for _, x := range k.T.Descs {
		if x.Refs == 0 {
			continue
		}
		if _, is := disk.Get(k.D, x.Ino); !is {
			return false
		}
		opens[x.Ino]++
	}
	for _, proc := range k.Procs {
		if proc.Live {
			opens[proc.Cwd]++
		}
	}
	for i, n := range k.D.Nodes {
		if n.Open != opens[i] {
			return false
		}
	}
	return true
}
