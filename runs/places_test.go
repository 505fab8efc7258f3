package runs_test

import (
	"fmt"
	"math"
	"slices"
	"testing"

	"catafalque/api"
	"catafalque/bits"
	"catafalque/ring"
	"catafalque/runs"
	"catafalque/topo"
)

// odd are numbers that are out of every bound.
var odd = []int{math.MinInt, math.MinInt + 1, -1 << 32, -65, -2, -1, 64, 65, 1 << 32, math.MaxInt - 1, math.MaxInt}

// tree is one of so many nodes as there are rows, with so many cores as a row
// is long, with so many processors as it says; numbered in the turn of a text.
func tree(nodes ...[]int) []api.Vertex {
	t := []api.Vertex{{Parent: -1, Level: api.Machine}}
	for _, cores := range nodes {
		node := len(t)
		t = append(t, api.Vertex{Parent: 0, Level: api.Node})
		for _, procs := range cores {
			core := len(t)
			t = append(t, api.Vertex{Parent: node, Level: api.Core})
			for range procs {
				t = append(t, api.Vertex{Parent: core, Level: api.Proc})
			}
		}
	}
	return t
}

// rows are n nodes of the same cores.
func rows(n int, cores ...int) [][]int {
	return slices.Repeat([][]int{cores}, n)
}

// mixed has processors that stand in another turn than their nodes: 0, 3 and 4
// are of the node 1, and 1, 2 and 5 of the node 0.
func mixed() []api.Vertex {
	return []api.Vertex{
		{Parent: -1, Level: api.Machine},
		{Parent: 0, Level: api.Node},
		{Parent: 0, Level: api.Node},
		{Parent: 2, Level: api.Core},
		{Parent: 1, Level: api.Core},
		{Parent: 3, Level: api.Proc},
		{Parent: 1, Level: api.Core},
		{Parent: 2, Level: api.Core},
		{Parent: 6, Level: api.Proc},
		{Parent: 4, Level: api.Proc},
		{Parent: 7, Level: api.Proc},
		{Parent: 3, Level: api.Proc},
		{Parent: 6, Level: api.Proc},
	}
}

// fair are trees that may be, the least and the greatest ones among them.
func fair() map[string][]api.Vertex {
	return map[string][]api.Vertex{
		"one processor":  tree([]int{1}),
		"one core":       tree([]int{2}),
		"two nodes":      tree([]int{2, 1}, []int{2}),
		"mixed":          mixed(),
		"8 nodes":        tree(rows(8, 1)...),
		"32 of one node": tree([]int{8, 8, 8, 8}),
		"32 of 4 nodes":  tree(rows(4, 8)...),
		"32 of 8 nodes":  tree(rows(8, 2, 2)...),
	}
}

// foul are trees that may not be.
func foul() map[string][]api.Vertex {
	two := tree([]int{2}, []int{2}) // 0 m, 1 n, 2 c, 3 p, 4 p, 5 n, 6 c, 7 p, 8 p
	level := slices.Clone(two)
	level[8] = api.Vertex{Parent: 5, Level: api.Proc}
	parent := slices.Clone(two)
	parent[6] = api.Vertex{Parent: 6, Level: api.Core}
	return map[string][]api.Vertex{
		"nil":                      nil,
		"empty":                    {},
		"a machine alone":          two[:1],
		"a core without any":       two[:3],
		"one node of two is empty": tree([]int{2}, nil),
		"33 processors":            tree(append(rows(4, 8), []int{1})...),
		"9 nodes":                  tree(rows(9, 1)...),
		"65 vertices":              tree(rows(8, 2, 1, 1)...),
		"a Level left out":         level,
		"its own Parent":           parent,
		"one below a processor":    append(slices.Clone(two), api.Vertex{Parent: 8, Level: 4}),
	}
}

// made is new Runs, which should be told.
func made(t *testing.T, x []api.Vertex, size int) runs.Runs {
	t.Helper()
	r, e := runs.New(x, size)
	if e != api.OK {
		t.Fatalf("New(%v, %d): %d", x, size, e)
	}
	return r
}

// some are Runs in which some stand next, some in rings, some in rows: the
// processors 0, 1 and 2 are of the node 0, and 3 and 4 of the node 1; 2 isn't
// plugged.
func some() runs.Runs {
	return runs.Runs{
		Tree:   tree([]int{2, 1}, []int{2}),
		Size:   3,
		Rings:  []ring.Ring{{Next: 4, L: []int{9, 2}}, {L: []int{7}}, {}, {Next: 5}, {Next: 11, L: []int{1, 12, 3}}},
		Shared: [][]int{{8, 6}, {10, 20, 15}},
		On:     bits.Of(0, 1, 3, 4),
	}
}

// with are some Runs turned by a change.
func with(change func(r *runs.Runs)) runs.Runs {
	r := some()
	change(&r)
	return r
}

// copied are the same Runs, that share nothing with these.
func copied(r runs.Runs) runs.Runs {
	s := runs.Runs{Tree: append([]api.Vertex{}, r.Tree...), Size: r.Size, On: r.On}
	for _, x := range r.Rings {
		s.Rings = append(s.Rings, ring.Ring{Next: x.Next, L: append([]int{}, x.L...)})
	}
	for _, row := range r.Shared {
		s.Shared = append(s.Shared, append([]int{}, row...))
	}
	return s
}

// same tells whether two Runs are the same, nil and empty, too.
func same(a, b runs.Runs) bool {
	alike := func(x, y ring.Ring) bool { return x.Next == y.Next && slices.Equal(x.L, y.L) }
	return slices.Equal(a.Tree, b.Tree) && a.Size == b.Size && a.On == b.On &&
		slices.EqualFunc(a.Rings, b.Rings, alike) && slices.EqualFunc(a.Shared, b.Shared, slices.Equal)
}

// all is the document's word, one by one.
func all(r runs.Runs) []int {
	var l []int
	for _, x := range r.Rings {
		if x.Next != 0 {
			l = append(l, x.Next)
		}
		for _, g := range x.L {
			l = append(l, g)
		}
	}
	for _, row := range r.Shared {
		for _, g := range row {
			l = append(l, g)
		}
	}
	return l
}

// where is the document's word, one by one.
func where(r runs.Runs, g int) (int, int) {
	for p, x := range r.Rings {
		if g != 0 && x.Next == g || slices.Contains(x.L, g) {
			return p, -1
		}
	}
	for n, row := range r.Shared {
		if slices.Contains(row, g) {
			return -1, n
		}
	}
	return -1, -1
}

// on tells whether a number's bit stands in On.
func on(r runs.Runs, p int) bool {
	return 0 <= p && p < 64 && uint64(r.On)/(1<<p)%2 == 1
}

// count is how many vertices of a Level there are ahead of a place.
func count(t []api.Vertex, end, level int) int {
	n := 0
	for _, x := range t[:end] {
		if x.Level == level {
			n++
		}
	}
	return n
}

// node is a processor's, two steps up.
func node(t []api.Vertex, p int) int {
	for v, x := range t {
		if x.Level == api.Proc && count(t, v, api.Proc) == p {
			return count(t, t[x.Parent].Parent, api.Node)
		}
	}
	return -1
}

// may is the document's word, each one held against all ahead.
func may(r runs.Runs) bool {
	if topo.Check(r.Tree) != api.OK || r.Size < 2 || r.Size > 16 {
		return false
	}
	procs := count(r.Tree, len(r.Tree), api.Proc)
	if len(r.Rings) != procs || len(r.Shared) != count(r.Tree, len(r.Tree), api.Node) || r.On == 0 {
		return false
	}
	for p := procs; p < 64; p++ {
		if on(r, p) {
			return false
		}
	}
	for p, x := range r.Rings {
		if len(x.L) > r.Size || !on(r, p) && (x.Next != 0 || len(x.L) != 0) {
			return false
		}
	}
	l := all(r)
	for k, g := range l {
		if g <= 0 || slices.Contains(l[:k], g) {
			return false
		}
	}
	return true
}

// put is the document's word, with layer 4's, one by one.
func put(r runs.Runs, p, g int) (runs.Runs, api.Errno) {
	s := copied(r)
	switch {
	case !may(r) || p < 0 || p >= len(r.Rings) || g <= 0:
		return s, api.ErrArg
	case slices.Contains(all(r), g):
		return s, api.ErrThere
	case !on(r, p):
		return s, api.ErrNone
	}
	x, n := &s.Rings[p], node(r.Tree, p)
	was := x.Next
	x.Next = g
	switch {
	case was == 0:
	case len(x.L) < r.Size:
		x.L = append(x.L, was)
	default:
		for range r.Size / 2 {
			s.Shared[n] = append(s.Shared[n], x.L[0])
			x.L = x.L[1:]
		}
		s.Shared[n] = append(s.Shared[n], was)
	}
	return s, api.OK
}

// push is the document's word.
func push(r runs.Runs, n, g int) (runs.Runs, api.Errno) {
	s := copied(r)
	switch {
	case !may(r) || n < 0 || n >= len(r.Shared) || g <= 0:
		return s, api.ErrArg
	case slices.Contains(all(r), g):
		return s, api.ErrThere
	}
	s.Shared[n] = append(s.Shared[n], g)
	return s, api.OK
}

// puts holds Put against the document's words, and tells what it tells.
func puts(t *testing.T, r runs.Runs, p, g int) runs.Runs {
	t.Helper()
	want, e := put(r, p, g)
	return comes(t, runs.Put, fmt.Sprintf("Put %d to the processor %d", g, p), r, p, g, want, e)
}

// pushes holds Push against the document's words, and tells what it tells.
func pushes(t *testing.T, r runs.Runs, n, g int) runs.Runs {
	t.Helper()
	want, e := push(r, n, g)
	return comes(t, runs.Push, fmt.Sprintf("Push %d to the node %d", g, n), r, n, g, want, e)
}

// comes lets one come to a place; the Runs that were handed in stay, and, if
// they may be, so may those that are told.
func comes(t *testing.T, call func(r runs.Runs, place, g int) (runs.Runs, api.Errno), name string, r runs.Runs, place, g int, want runs.Runs, e api.Errno) runs.Runs {
	t.Helper()
	keep := copied(r)
	s, is := call(r, place, g)
	if is != e || !same(s, want) {
		t.Fatalf("%s of %v: %v, %d, not %v, %d", name, r, s, is, want, e)
	}
	if !same(r, keep) {
		t.Fatalf("%s: handed in was %v, and is %v", name, keep, r)
	}
	if runs.May(s) != runs.May(r) {
		t.Fatalf("%s of %v: %v, whether they may be: %t", name, r, s, runs.May(s))
	}
	return s
}

// stands holds what All, Where and May tell against the document's words.
func stands(t *testing.T, r runs.Runs) {
	t.Helper()
	if l := runs.All(r); !slices.Equal(l, all(r)) {
		t.Fatalf("All(%v) is %v, not %v", r, l, all(r))
	}
	for _, g := range slices.Concat(all(r), odd, []int{0, 1, 2, 3, 50, 99}) {
		p, n := runs.Where(r, g)
		if q, m := where(r, g); p != q || n != m {
			t.Fatalf("Where(%v, %d) is %d, %d, not %d, %d", r, g, p, n, q, m)
		}
	}
	if ok := runs.May(r); ok != may(r) {
		t.Fatalf("May(%v) is %t", r, ok)
	}
}

// mixer tells numbers in a turn that looks like none, the same each time.
type mixer uint32

// below is a number from 0 to k - 1.
func (m *mixer) below(k int) int {
	*m = *m*1664525 + 1013904223
	return int(*m>>8) % k
}
