package find_test

import (
	"fmt"
	"math"
	"slices"
	"testing"

	"catafalque/api"
	"catafalque/bits"
	"catafalque/find"
	"catafalque/ring"
	"catafalque/runs"
)

// turns are ticks at which it is a row's turn, and others ticks at which it
// isn't.
var (
	turns  = []int{0, 61, 122, 183, 6100, -61, -122, math.MaxInt - 7, math.MinInt + 8}
	others = []int{1, 2, 30, 59, 60, 62, 121, 123, 610 + 1, -1, -60, -62, math.MaxInt, math.MaxInt - 6, math.MinInt, math.MinInt + 7}
)

// tree is one of so many nodes as there are rows, with so many cores as a row
// is long, with so many processors as it says; numbered in the turn of a text.
func tree(nodes ...[]int) []api.Vertex {
	t := []api.Vertex{{Parent: -1, Level: api.Machine}}
	for _, cores := range nodes {
		node := len(t)
		t = append(t, api.Vertex{Parent: 0, Level: api.Node})
		for _, procs := range cores {
			core := len(t)
			t = append(t, api.Vertex{Parent: node, Level: api.Core})
			for range procs {
				t = append(t, api.Vertex{Parent: core, Level: api.Proc})
			}
		}
	}
	return t
}

// rows are n nodes of the same cores.
func rows(n int, cores ...int) [][]int {
	return slices.Repeat([][]int{cores}, n)
}

// mixed has processors that stand in another turn than their nodes: 0, 3 and 4
// are of the node 1, and 1, 2 and 5 of the node 0.
func mixed() []api.Vertex {
	return []api.Vertex{
		{Parent: -1, Level: api.Machine},
		{Parent: 0, Level: api.Node},
		{Parent: 0, Level: api.Node},
		{Parent: 2, Level: api.Core},
		{Parent: 1, Level: api.Core},
		{Parent: 3, Level: api.Proc},
		{Parent: 1, Level: api.Core},
		{Parent: 2, Level: api.Core},
		{Parent: 6, Level: api.Proc},
		{Parent: 4, Level: api.Proc},
		{Parent: 7, Level: api.Proc},
		{Parent: 3, Level: api.Proc},
		{Parent: 6, Level: api.Proc},
	}
}

// trees may be, the least and the greatest ones among them.
func trees() map[string][]api.Vertex {
	return map[string][]api.Vertex{
		"one processor":  tree([]int{1}),
		"one core":       tree([]int{2}),
		"two nodes":      tree([]int{2, 1}, []int{2}),
		"mixed":          mixed(),
		"8 nodes":        tree(rows(8, 1)...),
		"32 of one node": tree([]int{8, 8, 8, 8}),
		"32 of 4 nodes":  tree(rows(4, 8)...),
		"32 of 8 nodes":  tree(rows(8, 2, 2)...),
	}
}

// crowd are Runs of a tree in which all are plugged, and somebody stands
// everywhere: behind p, whose Next is 10p + 10, 10p + 11 and 10p + 12, and in
// the row of n 1000n + 1000 and the two behind it.
func crowd(x []api.Vertex) runs.Runs {
	r, _ := runs.New(x, 2)
	for p := range r.Rings {
		g := 10*p + 10
		r.Rings[p] = ring.Ring{Next: g, L: []int{g + 1, g + 2}}
	}
	for n := range r.Shared {
		g := 1000*n + 1000
		r.Shared[n] = []int{g, g + 1, g + 2}
	}
	return r
}

// some are Runs in which some stand next, some in rings, some in rows: the
// processors 0, 1 and 2 are of the node 0, and 3 and 4 of the node 1; 2 isn't
// plugged.
func some() runs.Runs {
	return runs.Runs{
		Tree:   tree([]int{2, 1}, []int{2}),
		Size:   3,
		Rings:  []ring.Ring{{Next: 4, L: []int{9, 2}}, {L: []int{7, 13}}, {}, {Next: 5}, {Next: 11, L: []int{1, 12, 3}}},
		Shared: [][]int{{8, 6}, {10, 20, 15}},
		On:     bits.Of(0, 1, 3, 4),
	}
}

// with are some Runs turned by a change.
func with(change func(r *runs.Runs)) runs.Runs {
	r := some()
	change(&r)
	return r
}

// copied are the same Runs, that share nothing with these.
func copied(r runs.Runs) runs.Runs {
	s := runs.Runs{Tree: append([]api.Vertex{}, r.Tree...), Size: r.Size, On: r.On}
	for _, x := range r.Rings {
		s.Rings = append(s.Rings, ring.Ring{Next: x.Next, L: append([]int{}, x.L...)})
	}
	for _, row := range r.Shared {
		s.Shared = append(s.Shared, append([]int{}, row...))
	}
	return s
}

// same tells whether two Runs are the same, nil and empty, too.
func same(a, b runs.Runs) bool {
	alike := func(x, y ring.Ring) bool { return x.Next == y.Next && slices.Equal(x.L, y.L) }
	return slices.Equal(a.Tree, b.Tree) && a.Size == b.Size && a.On == b.On &&
		slices.EqualFunc(a.Rings, b.Rings, alike) && slices.EqualFunc(a.Shared, b.Shared, slices.Equal)
}

// plugged tells whether a number's bit stands in On.
func plugged(r runs.Runs, p int) bool {
	return 0 <= p && p < 64 && uint64(r.On)/(1<<p)%2 == 1
}

// count is how many vertices of a Level there are ahead of a place.
func count(t []api.Vertex, end, level int) int {
	n := 0
	for _, x := range t[:end] {
		if x.Level == level {
			n++
		}
	}
	return n
}

// node is a processor's, two steps up.
func node(t []api.Vertex, p int) int {
	for v, x := range t {
		if x.Level == api.Proc && count(t, v, api.Proc) == p {
			return count(t, t[x.Parent].Parent, api.Node)
		}
	}
	return -1
}

// local is the document's word, one by one.
func local(r runs.Runs, p, tick int) (runs.Runs, int, int) {
	s := copied(r)
	if !runs.May(r) || !plugged(r, p) {
		return s, 0, 0
	}
	x, row := &s.Rings[p], &s.Shared[node(r.Tree, p)]
	switch turn := tick/61*61 == tick; {
	case turn && len(*row) > 0:
		g := (*row)[0]
		*row = (*row)[1:]
		return s, g, 3
	case x.Next != 0:
		g := x.Next
		x.Next = 0
		return s, g, 1
	case len(x.L) > 0:
		g := x.L[0]
		x.L = x.L[1:]
		return s, g, 2
	case len(*row) > 0:
		g := (*row)[0]
		*row = (*row)[1:]
		return s, g, 3
	}
	return s, 0, 0
}

// finds holds Local against the document's words, and tells what it tells: the
// Runs that were handed in stay; who is told stands nowhere any more, and all
// others stand as they stood.
func finds(t *testing.T, r runs.Runs, p, tick int) (runs.Runs, int, int) {
	t.Helper()
	// Told of a failure alone: texts of all Runs would take long.
	name := func() string { return fmt.Sprintf("Local of %v, of %d at the tick %d", r, p, tick) }
	keep := copied(r)
	s, g, place := find.Local(r, p, tick)
	if !same(r, keep) {
		t.Fatalf("%s: handed in was %v", name(), keep)
	}
	if want, h, where := local(r, p, tick); !same(s, want) || g != h || place != where {
		t.Fatalf("%s: %v, %d, %d, not %v, %d, %d", name(), s, g, place, want, h, where)
	}
	if runs.May(s) != runs.May(r) {
		t.Fatalf("%s: %v, whether they may be: %t", name(), s, runs.May(s))
	}
	if place == find.Nobody {
		if g != 0 || !same(s, keep) {
			t.Fatalf("%s: nobody is %d, with %v", name(), g, s)
		}
		return s, g, place
	}
	left := slices.DeleteFunc(runs.All(r), func(h int) bool { return h == g })
	if !slices.Equal(runs.All(s), left) || len(left) != len(runs.All(r))-1 {
		t.Fatalf("%s: %d is told, and there stand %v", name(), g, runs.All(s))
	}
	for _, h := range left {
		p, n := runs.Where(r, h)
		if q, m := runs.Where(s, h); p != q || n != m {
			t.Fatalf("%s: %d stood at %d, %d, and stands at %d, %d", name(), h, p, n, q, m)
		}
	}
	return s, g, place
}

// mixer tells numbers in a turn that looks like none, the same each time.
type mixer uint32

// below is a number from 0 to k - 1.
func (m *mixer) below(k int) int {
	*m = *m*1664525 + 1013904223
	return int(*m>>8) % k
}
