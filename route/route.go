// Package route is layer 1: paths, and their parts (see shared/doc/01-route.md).
package route

import (
	"iter"
	"strings"

	"flagstone/api"
)

// Split tells the parts of p, whether it begins with a slash, and whether it ends with one.
func Split(p string) ([]string, bool, bool) {
	var parts []string
	for start, end := range spans(p) {
		parts = append(parts, p[start:end])
	}
	return parts, strings.HasPrefix(p, "/"), strings.HasSuffix(p, "/")
}

// Check tells what keeps p from being a path.
func Check(p string) api.Errno {
	switch {
	case p == "":
		return api.ErrNone
	case len(p) > api.MaxPath:
		return api.ErrLong
	case strings.IndexByte(p, 0) >= 0:
		return api.ErrArg
	}
	for start, end := range spans(p) {
		if end-start > api.MaxName {
			return api.ErrLong
		}
	}
	return api.OK
}

// Base tells the last part of p.
func Base(p string) string {
	return cut(p, "", func(start, end int) string { return p[start:end] })
}

// Dir tells what is ahead of the last part of p.
func Dir(p string) string {
	return cut(p, ".", func(start, _ int) string {
		ahead := strings.TrimRight(p[:start], "/")
		switch {
		case ahead != "":
			return ahead
		case strings.HasPrefix(p, "/"):
			return "/"
		}
		return "."
	})
}

// Join tells where b leads for one who stands at a.
func Join(a, b string) string {
	switch {
	case a == "" || strings.HasPrefix(b, "/"):
		return b
	case b == "":
		return a
	case strings.HasSuffix(a, "/"):
		return a + b
	}
	return a + "/" + b
}

// Ups tells the path up to each of its parts, the shortest one first.
func Ups(p string) []string {
	var ups []string
	for _, end := range spans(p) {
		ups = append(ups, p[:end])
	}
	return ups
}

// spans goes through the parts of p, in order, by the places where each begins and ends.
func spans(p string) iter.Seq2[int, int] {
	return func(yield func(int, int) bool) {
		for at := 0; at < len(p); {
			if p[at] == '/' {
				at++
				continue
			}
			end := partEnd(p, at)
			if !yield(at, end) {
				return
			}
			at = end
		}
	}
}

// partEnd tells where the part that begins at start ends.
func partEnd(p string, start int) int {
	if n := strings.IndexByte(p[start:], '/'); n >= 0 {
		return start + n
	}
	return len(p)
}

// cut hands the last part's ends to take, for paths that have one: Base and
// Dir differ in what they take there, and in what they say of the empty path.
func cut(p, empty string, take func(start, end int) string) string {
	if p == "" {
		return empty
	}
	from, to := 0, 0
	for start, end := range spans(p) {
		from, to = start, end
	}
	if to == 0 { // a part is never empty, so there was none
		return "/"
	}
	return take(from, to)
}
