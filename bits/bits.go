// Package bits is layer 2: a set of small numbers, of which whole rows come and go.
package bits

import (
	"iter"
	"slices"

	"millpond/api"
)

// Set is some of the numbers up to a length. It stays as it was: a call that changes something answers a new one.
type Set struct {
	length int
	// The edges of the longest rows, strictly rising: where the first row begins, where it is over, where the second one begins, and so on. So one set has one form alone, and a great set of few rows is small.
	edges []int
}

// New: none is in it.
func New(length int) Set {
	return Set{length: min(max(length, 0), api.MaxPages)}
}

// Len: the length.
func (s Set) Len() int {
	return s.length
}

// Has: is a number in it?
func (s Set) Has(i int) bool {
	return i >= 0 && i < s.length && inside(s.edgesBelow(i+1))
}

// With: a row more.
func (s Set) With(from, n int) (Set, api.Errno) {
	return s.laid(from, n, true)
}

// Without: a row less.
func (s Set) Without(from, n int) (Set, api.Errno) {
	return s.laid(from, n, false)
}

// Count: how many of a row.
func (s Set) Count(from, n int) (int, api.Errno) {
	if !s.within(from, n) {
		return 0, api.ErrRange
	}
	total := 0
	for first, many := range s.Rows() {
		low, high := max(first, from), min(first+many, from+n)
		total += max(high-low, 0)
	}
	return total, api.OK
}

// First: the first one from a number on that is in it, or isn't.
func (s Set) First(from int, in bool) (int, bool) {
	from = max(from, 0)
	if from >= s.length {
		return 0, false
	}
	next := s.edgesBelow(from + 1)
	if inside(next) == in {
		return from, true
	}
	// The next edge is where that turns; the last row's end may be the length, which is no number of the set's.
	if next < len(s.edges) && s.edges[next] < s.length {
		return s.edges[next], true
	}
	return 0, false
}

// Rows: the longest rows that are in it.
func (s Set) Rows() iter.Seq2[int, int] {
	return func(yield func(int, int) bool) {
		for k := 0; k+1 < len(s.edges); k += 2 {
			if !yield(s.edges[k], s.edges[k+1]-s.edges[k]) {
				return
			}
		}
	}
}

// Same: are two the same?
func Same(a, b Set) bool {
	return a.length == b.length && slices.Equal(a.edges, b.edges)
}

// laid: the set, where all of a row is in it, or none of it.
func (s Set) laid(from, n int, in bool) (Set, api.Errno) {
	if !s.within(from, n) {
		return s, api.ErrRange
	}
	if n == 0 {
		return s, api.OK
	}
	before, upTo := s.edgesBelow(from), s.edgesBelow(from+n+1)
	edges := make([]int, 0, len(s.edges)+2)
	edges = append(edges, s.edges[:before]...)
	// An end of the row is an edge only where the numbers on its two sides differ: what touches becomes one row.
	if inside(before) != in {
		edges = append(edges, from)
	}
	if inside(upTo) != in {
		edges = append(edges, from+n)
	}
	edges = append(edges, s.edges[upTo:]...)
	return Set{length: s.length, edges: edges}, api.OK
}

// within: is the row within the set? n is held against what is left, so that from + n can't go round.
func (s Set) within(from, n int) bool {
	return from >= 0 && n >= 0 && n <= s.length-from
}

// edgesBelow: how many edges are less than a number.
func (s Set) edgesBelow(i int) int {
	k, _ := slices.BinarySearch(s.edges, i)
	return k
}

// inside: behind so many edges, is one in a row?
func inside(edges int) bool {
	return edges%2 == 1
}
