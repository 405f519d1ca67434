package disk

import "flagstone/entry"

// naming is how many names name a node, and the node that has the last of them.
type naming struct{ names, holder int }

// Right tells whether d is right: whether each part of what has to be holds of each node.
func Right(d Disk) bool {
	if !rooted(d) || len(d.Nodes) > d.Most || Bytes(d) > d.Room {
		return false
	}
	named := namings(d)
	parts := [...]func(i int, n Node) bool{
		func(_ int, n Node) bool { return plain(n) },
		func(_ int, n Node) bool { return n.Kind != Dir || n.Data == "" },
		func(_ int, n Node) bool { return n.Kind == Dir || len(n.Names) == 0 },
		func(_ int, n Node) bool { return entry.Sorted(n.Names) && allNamable(d, n.Names) },
		func(i int, n Node) bool { return n.Links == links(named[i], i) },
		func(_ int, n Node) bool { return n.Links > 0 || n.Open > 0 },
		func(i int, n Node) bool { return n.Kind != Dir || i == root || placed(d, named[i], i) },
	}
	for i, n := range d.Nodes {
		if free(n) {
			if !zero(n) {
				return false
			}
			continue
		}
		for _, holds := range parts {
			if !holds(i, n) {
				return false
			}
		}
	}
	return true
}

func rooted(d Disk) bool {
	return len(d.Nodes) > 0 && d.Nodes[root].Kind == Dir && d.Nodes[root].Up == root
}

// namings tells of each node of d what names it.
func namings(d Disk) []naming {
	named := make([]naming, len(d.Nodes))
	for at, n := range d.Nodes {
		for _, e := range n.Names {
			if has(d, e.Ino) {
				named[e.Ino] = naming{named[e.Ino].names + 1, at}
			}
		}
	}
	return named
}

func zero(n Node) bool {
	numbers := [...]int{n.Kind, n.Mode, n.Owner, n.Links, n.Open, n.Up}
	return numbers == [len(numbers)]int{} && n.Data == "" && len(n.Names) == 0
}

// plain tells whether the numbers of n that hang on no other node are right.
func plain(n Node) bool {
	return within(n.Kind, File, Link) && within(n.Mode, 0, allMode) && n.Open >= 0
}

// allNamable tells whether all of l name nodes that may be named.
func allNamable(d Disk, l []entry.Entry) bool {
	for _, e := range l {
		if !has(d, e.Ino) || free(d.Nodes[e.Ino]) || e.Ino == root {
			return false
		}
	}
	return true
}

// links tells how many links node i has to have.
func links(of naming, i int) int {
	if i == root {
		return of.names + 1 // the root has a link that is no name
	}
	return of.names
}

// placed tells whether the directory i, that is not the root, is where its name is.
func placed(d Disk, of naming, i int) bool {
	n := d.Nodes[i]
	switch of.names {
	case 0:
		return len(n.Names) == 0 && n.Up == root
	case 1:
		return n.Up == of.holder && climbs(d, i)
	}
	return false
}

// climbs tells whether the way up from node i comes to the root. One that
// takes more steps than there are nodes goes round.
func climbs(d Disk, i int) bool {
	for range d.Nodes {
		if i == root {
			return true
		}
		if !has(d, i) {
			return false
		}
		i = d.Nodes[i].Up
	}
	return false
}
