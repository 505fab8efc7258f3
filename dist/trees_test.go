package dist_test

import (
	"math"
	"slices"

	"catafalque/api"
)

// odd are numbers that no processor has.
var odd = []int{math.MinInt, math.MinInt + 1, -33, -2, -1, 32, 33, 64, math.MaxInt - 1, math.MaxInt}

// tree is one of so many nodes as there are rows, with so many cores as a row
// is long, with so many processors as it says; numbered in the turn of a text.
func tree(nodes ...[]int) []api.Vertex {
	t := []api.Vertex{{Parent: -1, Level: api.Machine}}
	for _, cores := range nodes {
		node := len(t)
		t = append(t, api.Vertex{Parent: 0, Level: api.Node})
		for _, procs := range cores {
			core := len(t)
			t = append(t, api.Vertex{Parent: node, Level: api.Core})
			for range procs {
				t = append(t, api.Vertex{Parent: core, Level: api.Proc})
			}
		}
	}
	return t
}

// rows are n nodes of the same cores.
func rows(n int, cores ...int) [][]int {
	return slices.Repeat([][]int{cores}, n)
}

// mixed has processors that stand in another turn than their cores and nodes:
// 0, 3 and 4 are of the node 1, whose two cores have 0 and 4, and 3; 1, 2 and 5
// of the node 0, whose two cores have 2, and 1 and 5.
func mixed() []api.Vertex {
	return []api.Vertex{
		{Parent: -1, Level: api.Machine},
		{Parent: 0, Level: api.Node},
		{Parent: 0, Level: api.Node},
		{Parent: 2, Level: api.Core},
		{Parent: 1, Level: api.Core},
		{Parent: 3, Level: api.Proc},
		{Parent: 1, Level: api.Core},
		{Parent: 2, Level: api.Core},
		{Parent: 6, Level: api.Proc},
		{Parent: 4, Level: api.Proc},
		{Parent: 7, Level: api.Proc},
		{Parent: 3, Level: api.Proc},
		{Parent: 6, Level: api.Proc},
	}
}

// full is of 7 nodes, 24 cores and 32 processors: 64 vertices.
func full() []api.Vertex {
	return tree(slices.Concat(rows(2, 2, 1, 1, 1), rows(1, 2, 2, 1, 1), rows(4, 2, 1, 1))...)
}

// fair are trees that may be, the least and the greatest ones among them.
func fair() map[string][]api.Vertex {
	return map[string][]api.Vertex{
		"least":                  tree([]int{1}),
		"the example":            tree([]int{2}, []int{2}),
		"uneven":                 tree([]int{1, 3}, []int{2}, []int{1, 1, 4}),
		"mixed":                  mixed(),
		"8 nodes":                tree(rows(8, 1)...),
		"8 cores":                tree([]int{1, 1, 1, 1, 1, 1, 1, 1}),
		"8 processors of a core": tree([]int{8}),
		"32 of a node":           tree([]int{8, 8, 8, 8}),
		"32 of 4 nodes":          tree(rows(4, 8)...),
		"32 of 8 nodes":          tree(rows(8, 2, 2)...),
		"64 vertices":            full(),
	}
}

// foul are trees that may not be, most of them with processors all of whose
// ways up are whole.
func foul() map[string][]api.Vertex {
	two := tree([]int{2}, []int{2}) // 0 m, 1 n, 2 c, 3 p, 4 p, 5 n, 6 c, 7 p, 8 p
	return map[string][]api.Vertex{
		"nil":                      nil,
		"empty":                    {},
		"a machine alone":          two[:1],
		"a core without any":       two[:3],
		"one node of two is empty": tree([]int{2}, nil),
		"one core of two is empty": tree([]int{2, 0}),
		"9 processors of a core":   tree([]int{9}),
		"9 nodes":                  tree(rows(9, 2)...),
		"33 processors":            tree(append(rows(4, 8), []int{1})...),
		"65 vertices":              tree(rows(8, 2, 1, 1)...),
		"the first has a Parent":   with(two, 0, api.Vertex{Parent: 0}),
		"its own Parent":           with(two, 6, api.Vertex{Parent: 6, Level: api.Core}),
		"a Parent that is none":    with(two, 8, api.Vertex{Parent: 9, Level: api.Proc}),
		"a Level left out":         with(two, 8, api.Vertex{Parent: 5, Level: api.Proc}),
		"one below a processor":    append(slices.Clone(two), api.Vertex{Parent: 8, Level: 4}),
	}
}

// with is a copy with another vertex at a place.
func with(t []api.Vertex, v int, x api.Vertex) []api.Vertex {
	t = slices.Clone(t)
	t[v] = x
	return t
}

// count is how many vertices of a Level there are ahead of a place.
func count(t []api.Vertex, end, level int) int {
	n := 0
	for _, x := range t[:end] {
		if x.Level == level {
			n++
		}
	}
	return n
}

// proc is the vertex of the p-th processor.
func proc(t []api.Vertex, p int) int {
	for v := range t {
		if t[v].Level == api.Proc && count(t, v, api.Proc) == p {
			return v
		}
	}
	panic("no such processor")
}

// far is the document's word, by the ways of both up, till they meet.
func far(t []api.Vertex, a, b int) int {
	v, w, n := proc(t, a), proc(t, b), 0
	for v != w {
		v, w, n = t[v].Parent, t[w].Parent, n+1
	}
	return n
}

// node is the document's word, two steps up.
func node(t []api.Vertex, p int) int {
	return count(t, t[t[proc(t, p)].Parent].Parent, api.Node)
}

// near is the document's word, gone round once for each Far.
func near(t []api.Vertex, p int) []int {
	var l []int
	n := count(t, len(t), api.Proc)
	for d := 1; d <= api.MaxFar; d++ {
		for q := p + 1; q < p+n; q++ {
			if far(t, p, q%n) == d {
				l = append(l, q%n)
			}
		}
	}
	return l
}
