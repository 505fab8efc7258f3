package topo_test

import (
	"math"
	"slices"

	"catafalque/api"
)

// odd are numbers that are out of every bound, or beside one.
var odd = []int{math.MinInt, math.MinInt + 1, -65, -2, -1, 0, 1, 2, 3, 4, 5, 63, 64, 65, math.MaxInt - 1, math.MaxInt}

// tree is one of so many nodes as there are rows, with so many cores as a row
// is long, with so many processors as it says; numbered in the turn of a text.
func tree(nodes ...[]int) []api.Vertex {
	t := []api.Vertex{{Parent: -1, Level: api.Machine}}
	for _, cores := range nodes {
		node := len(t)
		t = append(t, api.Vertex{Parent: 0, Level: api.Node})
		for _, procs := range cores {
			core := len(t)
			t = append(t, api.Vertex{Parent: node, Level: api.Core})
			for range procs {
				t = append(t, api.Vertex{Parent: core, Level: api.Proc})
			}
		}
	}
	return t
}

// rows are n nodes of the same cores.
func rows(n int, cores ...int) [][]int {
	return slices.Repeat([][]int{cores}, n)
}

// wide is the same tree, numbered level by level.
func wide(t []api.Vertex) []api.Vertex {
	var out []api.Vertex
	place := map[int]int{-1: -1}
	for level := api.Machine; level <= api.Proc; level++ {
		for v, x := range t {
			if x.Level == level {
				place[v] = len(out)
				out = append(out, api.Vertex{Parent: place[x.Parent], Level: level})
			}
		}
	}
	return out
}

// full is of 7 nodes, 24 cores and 32 processors: 64 vertices.
func full() []api.Vertex {
	return tree(slices.Concat(rows(2, 2, 1, 1, 1), rows(1, 2, 2, 1, 1), rows(4, 2, 1, 1))...)
}

// fair are trees that may be, the least and the greatest ones among them.
func fair() map[string][]api.Vertex {
	uneven := tree([]int{1, 3}, []int{2}, []int{1, 1, 4})
	return map[string][]api.Vertex{
		"least":                  tree([]int{1}),
		"the example":            tree([]int{2}),
		"two nodes":              tree([]int{2}, []int{2}),
		"uneven":                 uneven,
		"uneven, level by level": wide(uneven),
		"8 nodes":                tree(rows(8, 1)...),
		"8 cores":                tree([]int{1, 1, 1, 1, 1, 1, 1, 1}),
		"8 processors of a core": tree([]int{8}),
		"32 processors":          tree(rows(4, 8)...),
		"32 of 8 nodes":          tree(rows(8, 2, 2)...),
		"64 vertices":            full(),
		"64, level by level":     wide(full()),
	}
}

// with is a copy with another vertex at a place.
func with(t []api.Vertex, v int, x api.Vertex) []api.Vertex {
	t = slices.Clone(t)
	t[v] = x
	return t
}

// lists calls f with each list of n vertices of some Parents and Levels, fair
// and foul ones.
func lists(n int, f func(t []api.Vertex)) {
	t := make([]api.Vertex, n)
	var fill func(v int)
	fill = func(v int) {
		if v == n {
			f(t)
			return
		}
		for parent := -1; parent <= n; parent++ {
			for level := -1; level <= api.Proc+1; level++ {
				t[v] = api.Vertex{Parent: parent, Level: level}
				fill(v + 1)
			}
		}
	}
	fill(0)
}

// may is the document's word, counted another way: what each vertex adds to
// the one above it.
func may(t []api.Vertex) bool {
	if len(t) == 0 || len(t) > 64 || t[0] != (api.Vertex{Parent: -1}) {
		return false
	}
	below, procs := map[int]int{}, 0
	for v := 1; v < len(t); v++ {
		x := t[v]
		if x.Parent < 0 || x.Parent >= v || x.Level < 1 || x.Level > 3 || t[x.Parent].Level != x.Level-1 {
			return false
		}
		below[x.Parent]++
		if x.Level == 3 {
			procs++
		}
	}
	for v, x := range t {
		if x.Level < 3 && (below[v] == 0 || below[v] > 8) {
			return false
		}
	}
	return procs <= 32
}

// up is the document's word, as one step and the rest of the way.
func up(t []api.Vertex, v, level int) int {
	switch {
	case v < 0 || v >= len(t):
		return -1
	case t[v].Level == level:
		return v
	case t[v].Parent >= v:
		return -1
	}
	return up(t, t[v].Parent, level)
}
