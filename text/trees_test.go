package text_test

import (
	"regexp"
	"slices"
	"sort"
	"strings"

	"catafalque/api"
)

// whole is a text, whatever the numbers of its vertices; small, one of a tree
// none of whose vertices has too many below it.
var (
	whole = regexp.MustCompile(`^m\((n\((c\(p+\))+\))+\)$`)
	small = regexp.MustCompile(`^m\((n\((c\(p{1,8}\)){1,8}\)){1,8}\)$`)
)

// least is the text of the least tree. What begins as a text does is made whole
// by one of the ends of this.
const least = "m(n(c(p)))"

// begins tells whether a text begins so.
func begins(s string) bool {
	for k := range len(least) + 1 {
		if whole.MatchString(s + least[k:]) {
			return true
		}
	}
	return false
}

// fault is the document's word: the place of the first rune with which no text
// goes on; how many bytes s has, if there is none. What begins as no text does
// goes on as none, so that place is looked for by halves; and as all that may
// stand there is one byte each, no rune of more begins ahead of it.
func fault(s string) int {
	return sort.Search(len(s)+1, func(k int) bool { return !begins(s[:k]) }) - 1
}

// may tells whether a text is one of a tree that may be.
func may(s string) bool {
	letters := len(s) - strings.Count(s, "(") - strings.Count(s, ")")
	return small.MatchString(s) && letters <= 64 && strings.Count(s, "p") <= 32
}

// parsed is the tree of a text that is whole: above each letter stands the last
// one ahead of it of the level above.
func parsed(s string) []api.Vertex {
	var t []api.Vertex
	last := map[int]int{-1: -1}
	for _, r := range s {
		if level := strings.IndexRune("mncp", r); level >= 0 {
			last[level] = len(t)
			t = append(t, api.Vertex{Parent: last[level-1], Level: level})
		}
	}
	return t
}

// deep is the document's word of a tree's text: of all vertices, by their ways
// down from the first one, the letters, with what opens and ends between them.
func deep(t []api.Vertex) string {
	ways := make([][]int, len(t))
	for v, x := range t {
		if v > 0 {
			ways[v] = slices.Concat(ways[x.Parent], []int{v})
		}
	}
	slices.SortFunc(ways, slices.Compare)
	s, open := "m", 0
	for _, way := range ways[1:] {
		if len(way) > open {
			s += "("
		}
		if len(way) < open {
			s += strings.Repeat(")", open-len(way))
		}
		open = len(way)
		s += "mncp"[open : open+1]
	}
	return s + strings.Repeat(")", open)
}

// tree is one of so many nodes as there are rows, with so many cores as a row
// is long, with so many processors as it says; numbered in the turn of a text.
func tree(nodes ...[]int) []api.Vertex {
	t := []api.Vertex{{Parent: -1, Level: api.Machine}}
	for _, cores := range nodes {
		node := len(t)
		t = append(t, api.Vertex{Parent: 0, Level: api.Node})
		for _, procs := range cores {
			core := len(t)
			t = append(t, api.Vertex{Parent: node, Level: api.Core})
			for range procs {
				t = append(t, api.Vertex{Parent: core, Level: api.Proc})
			}
		}
	}
	return t
}

// rows are n nodes of the same cores.
func rows(n int, cores ...int) [][]int {
	return slices.Repeat([][]int{cores}, n)
}

// wide is the same tree, numbered level by level.
func wide(t []api.Vertex) []api.Vertex {
	var out []api.Vertex
	place := map[int]int{-1: -1}
	for level := api.Machine; level <= api.Proc; level++ {
		for v, x := range t {
			if x.Level == level {
				place[v] = len(out)
				out = append(out, api.Vertex{Parent: place[x.Parent], Level: level})
			}
		}
	}
	return out
}

// mixed has vertices that stand in another turn than those above them: the node
// 1 has the cores 4 and 6, with 9, and 8 and 12; the node 2 the cores 3 and 7,
// with 5 and 11, and 10.
func mixed() []api.Vertex {
	return []api.Vertex{
		{Parent: -1, Level: api.Machine},
		{Parent: 0, Level: api.Node},
		{Parent: 0, Level: api.Node},
		{Parent: 2, Level: api.Core},
		{Parent: 1, Level: api.Core},
		{Parent: 3, Level: api.Proc},
		{Parent: 1, Level: api.Core},
		{Parent: 2, Level: api.Core},
		{Parent: 6, Level: api.Proc},
		{Parent: 4, Level: api.Proc},
		{Parent: 7, Level: api.Proc},
		{Parent: 3, Level: api.Proc},
		{Parent: 6, Level: api.Proc},
	}
}

// full is of 7 nodes, 24 cores and 32 processors: 64 vertices.
func full() []api.Vertex {
	return tree(slices.Concat(rows(2, 2, 1, 1, 1), rows(1, 2, 2, 1, 1), rows(4, 2, 1, 1))...)
}

// fair are trees that may be, the least and the greatest ones among them.
func fair() map[string][]api.Vertex {
	uneven := tree([]int{1, 3}, []int{2}, []int{1, 1, 4})
	return map[string][]api.Vertex{
		"least":                  tree([]int{1}),
		"the example":            tree([]int{2}),
		"two nodes":              tree([]int{2}, []int{2}),
		"uneven":                 uneven,
		"uneven, level by level": wide(uneven),
		"mixed":                  mixed(),
		"8 nodes":                tree(rows(8, 1)...),
		"8 cores":                tree([]int{1, 1, 1, 1, 1, 1, 1, 1}),
		"8 processors of a core": tree([]int{8}),
		"32 of a node":           tree([]int{8, 8, 8, 8}),
		"32 processors":          tree(rows(4, 8)...),
		"32 of 8 nodes":          tree(rows(8, 2, 2)...),
		"64 vertices":            full(),
		"64, level by level":     wide(full()),
	}
}

// foul are trees that have too much of something, and nothing else that may not
// be: they have a text.
func foul() map[string][]api.Vertex {
	return map[string][]api.Vertex{
		"65 vertices":             tree(rows(8, 2, 1, 1)...),
		"66 vertices":             tree(slices.Concat(rows(7, 2, 1, 1), rows(1, 2, 2, 1))...),
		"33 processors":           tree(append(rows(4, 8), []int{1})...),
		"9 nodes":                 tree(rows(9, 1)...),
		"9 cores":                 tree([]int{1, 1, 1, 1, 1, 1, 1, 1, 1}),
		"9 processors of a core":  tree([]int{9}),
		"9 of a core further on":  tree([]int{1}, []int{1, 9}),
		"far too many processors": tree([]int{500}),
		"far too many nodes":      tree(rows(500, 1)...),
	}
}

// with is a copy with another vertex at a place.
func with(t []api.Vertex, v int, x api.Vertex) []api.Vertex {
	t = slices.Clone(t)
	t[v] = x
	return t
}
