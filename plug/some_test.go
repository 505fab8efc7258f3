package plug_test

import (
	"fmt"
	"math"
	"slices"
	"testing"

	"catafalque/api"
	"catafalque/bits"
	"catafalque/plug"
	"catafalque/ring"
	"catafalque/runs"
	"catafalque/text"
	"catafalque/topo"
)

// noProcs are numbers that are no processor's, of trees of at most 32.
var noProcs = []int{math.MinInt, math.MinInt + 1, -1 << 32, -64, -32, -2, -1, 32, 33, 63, 64, 65, 1 << 32, math.MaxInt - 1, math.MaxInt}

// noCurs are numbers of nobody who runs, and not the one that says so.
var noCurs = []int{-1, -2, -64, -1 << 32, math.MinInt + 1, math.MinInt}

// tree is a text's.
func tree(s string) []api.Vertex {
	t, at, e := text.Parse(s)
	if e != api.OK {
		panic(fmt.Sprint("the text ", s, " is wrong at ", at))
	}
	return t
}

// mixed has processors that stand in another turn than their nodes: 0, 3 and 4
// are of the node 1, and 1, 2 and 5 of the node 0.
func mixed() []api.Vertex {
	above := []int{-1, 0, 0, 2, 1, 3, 1, 2, 6, 4, 7, 3, 6}
	level := []int{0, 1, 1, 2, 2, 3, 2, 2, 3, 3, 3, 3, 3}
	var t []api.Vertex
	for v, x := range above {
		t = append(t, api.Vertex{Parent: x, Level: level[v]})
	}
	return t
}

// trees are of one node and of several, with one core and several, the least
// and the greatest ones among them.
func trees() map[string][]api.Vertex {
	t := map[string][]api.Vertex{"mixed": mixed()}
	for _, s := range []string{
		"m(n(c(p)))",
		"m(n(c(pp)))",
		"m(n(c(ppppp)))",
		"m(n(c(p)c(pp)c(p)))",
		"m(n(c(pp))n(c(pp)))",
		"m(n(c(p))n(c(p))n(c(p)))",
		"m(n(c(pp)c(p))n(c(p))n(c(p)c(ppp)))",
		"m(n(c(p))n(c(p))n(c(p))n(c(p))n(c(p))n(c(p))n(c(p))n(c(p)))",
		"m(n(c(pppppppp)c(pppppppp)c(pppppppp)c(pppppppp)))",
		"m(n(c(pppp)c(pppp))n(c(pppp)c(pppp))n(c(pppp)c(pppp))n(c(pppp)c(pppp)))",
	} {
		t[s] = tree(s)
	}
	return t
}

// empty are Runs of a tree in which nobody stands.
func empty(t []api.Vertex, size int) runs.Runs {
	r, e := runs.New(t, size)
	if e != api.OK {
		panic(fmt.Sprint("no Runs of the size ", size, ": ", e))
	}
	return r
}

// crowd are Runs in which somebody stands everywhere, and each ring is full:
// behind p, whose Next is 10p + 10, 10p + 11 and 10p + 12, and in the row of n
// 1000n + 1000 and the two behind it.
func crowd(t []api.Vertex) runs.Runs {
	r := empty(t, 2)
	for p := range r.Rings {
		g := 10*p + 10
		r.Rings[p] = ring.Ring{Next: g, L: []int{g + 1, g + 2}}
	}
	for n := range r.Shared {
		g := 1000*n + 1000
		r.Shared[n] = []int{g, g + 1, g + 2}
	}
	return r
}

// without are the same Runs, in which those processors aren't plugged and nobody
// stands in their rings.
func without(r runs.Runs, procs ...int) runs.Runs {
	s := copied(r)
	for _, p := range procs {
		s.Rings[p], s.On = ring.Ring{}, s.On&^(1<<p)
	}
	return s
}

// alone are the same Runs, in which p alone is plugged, and nobody stands in the
// other rings.
func alone(r runs.Runs, p int) runs.Runs {
	s := copied(r)
	clear(s.Rings)
	s.Rings[p], s.On = copied(r).Rings[p], 1<<p
	return s
}

// copied are the same Runs, that share nothing with these.
func copied(r runs.Runs) runs.Runs {
	s := runs.Runs{Tree: append([]api.Vertex{}, r.Tree...), Size: r.Size, On: r.On}
	for _, x := range r.Rings {
		s.Rings = append(s.Rings, ring.Ring{Next: x.Next, L: append([]int{}, x.L...)})
	}
	for _, row := range r.Shared {
		s.Shared = append(s.Shared, append([]int{}, row...))
	}
	return s
}

// same tells whether two Runs are the same, nil and empty, too.
func same(a, b runs.Runs) bool {
	alike := func(x, y ring.Ring) bool { return x.Next == y.Next && slices.Equal(x.L, y.L) }
	return slices.Equal(a.Tree, b.Tree) && a.Size == b.Size && a.On == b.On &&
		slices.EqualFunc(a.Rings, b.Rings, alike) && slices.EqualFunc(a.Shared, b.Shared, slices.Equal)
}

// member tells whether a number's bit stands in a Set.
func member(s bits.Set, n int) bool {
	return 0 <= n && n < 64 && uint64(s)/(1<<n)%2 == 1
}

// node is the place among the nodes of the one that lies above p.
func node(t []api.Vertex, p int) int {
	core := t[topo.Procs(t)[p]].Parent
	return slices.Index(topo.Nodes(t), t[core].Parent)
}

// procOf tells whether the document's first ErrArg isn't told: Runs that may be,
// and a processor.
func procOf(r runs.Runs, p int) bool {
	return runs.May(r) && p >= 0 && p < len(r.Rings)
}

// plugged is the document's Plug.
func plugged(r runs.Runs, p int) (runs.Runs, api.Errno) {
	s := copied(r)
	if !procOf(r, p) {
		return s, api.ErrArg
	}
	if member(r.On, p) {
		return s, api.ErrThere
	}
	s.On += 1 << p
	return s, api.OK
}

// unplugged is the document's Unplug, one by one.
func unplugged(r runs.Runs, p, cur int) (runs.Runs, api.Errno) {
	s := copied(r)
	if !procOf(r, p) || cur < 0 {
		return s, api.ErrArg
	}
	if !member(r.On, p) {
		return s, api.ErrNone
	}
	if s.On -= 1 << p; s.On == 0 {
		return copied(r), api.ErrLast
	}
	if at, row := runs.Where(r, cur); cur > 0 && (at >= 0 || row >= 0) {
		return copied(r), api.ErrThere
	}
	s.Rings[p] = ring.Ring{}
	row := &s.Shared[node(r.Tree, p)]
	for _, g := range append([]int{cur, r.Rings[p].Next}, r.Rings[p].L...) {
		if g != 0 {
			*row = append(*row, g)
		}
	}
	return s, api.OK
}

// plugs holds Plug against the document's words, and tells what it tells: the
// Runs that were handed in stay, and, but for who is plugged, those told are the
// same.
func plugs(t *testing.T, r runs.Runs, p int) (runs.Runs, api.Errno) {
	t.Helper()
	// Told of a failure alone: texts of all Runs would take long.
	name := func() string { return fmt.Sprintf("Plug of %v, of %d", r, p) }
	keep := copied(r)
	s, e := plug.Plug(r, p)
	if !same(r, keep) {
		t.Fatalf("%s: handed in was %v", name(), keep)
	}
	if want, f := plugged(r, p); !same(s, want) || e != f {
		t.Fatalf("%s: %v, %d, not %v, %d", name(), s, e, want, f)
	}
	if e == api.OK && (!runs.May(s) || !member(s.On, p)) {
		t.Fatalf("%s: %v", name(), s)
	}
	but := s
	if but.On = r.On; !same(but, keep) {
		t.Fatalf("%s: but for who is plugged they are %v", name(), but)
	}
	return s, e
}

// unplugs holds Unplug against the document's words, and tells what it tells: the
// Runs that were handed in stay, one at least is plugged, and all who stood there
// still stand, once, and who ran, too.
func unplugs(t *testing.T, r runs.Runs, p, cur int) (runs.Runs, api.Errno) {
	t.Helper()
	name := func() string { return fmt.Sprintf("Unplug of %v, of %d, running %d", r, p, cur) }
	keep := copied(r)
	s, e := plug.Unplug(r, p, cur)
	if !same(r, keep) {
		t.Fatalf("%s: handed in was %v", name(), keep)
	}
	if want, f := unplugged(r, p, cur); !same(s, want) || e != f {
		t.Fatalf("%s: %v, %d, not %v, %d", name(), s, e, want, f)
	}
	if e != api.OK {
		if !same(s, keep) {
			t.Fatalf("%s: the error %d, with %v", name(), e, s)
		}
		return s, e
	}
	if !runs.May(s) || s.On == 0 || member(s.On, p) {
		t.Fatalf("%s: %v", name(), s)
	}
	all := runs.All(r)
	if cur != 0 {
		all = append(all, cur)
	}
	if !slices.Equal(sorted(runs.All(s)), sorted(all)) {
		t.Fatalf("%s: there stand %v", name(), runs.All(s))
	}
	return s, e
}

// sorted is a list, rising.
func sorted(l []int) []int {
	return slices.Sorted(slices.Values(l))
}

// row is the numbers from a to b.
func row(a, b int) []int {
	var l []int
	for g := a; g <= b; g++ {
		l = append(l, g)
	}
	return l
}

// mixer tells numbers in a turn that looks like none, the same each time.
type mixer uint32

// below is a number from 0 to k - 1.
func (m *mixer) below(k int) int {
	*m = *m*1664525 + 1013904223
	return int(*m>>8) % k
}
