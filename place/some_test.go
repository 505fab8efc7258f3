package place_test

import (
	"fmt"
	"math"
	"slices"
	"testing"

	"catafalque/api"
	"catafalque/bits"
	"catafalque/place"
	"catafalque/ring"
	"catafalque/runs"
	"catafalque/text"
	"catafalque/topo"
)

// noProcs are numbers that are no processor's, of trees of at most 32.
var noProcs = []int{math.MinInt, math.MinInt + 1, -1 << 32, -64, -32, -2, -1, 32, 33, 63, 64, 65, 1 << 32, math.MaxInt - 1, math.MaxInt}

// noGs are numbers that are not above 0.
var noGs = []int{0, -1, -2, -64, -1 << 32, math.MinInt + 1, math.MinInt}

// tree is a text's.
func tree(s string) []api.Vertex {
	t, at, e := text.Parse(s)
	if e != api.OK {
		panic(fmt.Sprint("the text ", s, " is wrong at ", at))
	}
	return t
}

// mixed has processors that stand in another turn than their nodes: 0, 3 and 4
// are of the node 1, and 1, 2 and 5 of the node 0.
func mixed() []api.Vertex {
	above := []int{-1, 0, 0, 2, 1, 3, 1, 2, 6, 4, 7, 3, 6}
	level := []int{0, 1, 1, 2, 2, 3, 2, 2, 3, 3, 3, 3, 3}
	var t []api.Vertex
	for v, x := range above {
		t = append(t, api.Vertex{Parent: x, Level: level[v]})
	}
	return t
}

// trees are of one node and of several, with one core and several, the least
// and the greatest ones among them.
func trees() map[string][]api.Vertex {
	t := map[string][]api.Vertex{"mixed": mixed()}
	for _, s := range []string{
		"m(n(c(p)))",
		"m(n(c(pp)))",
		"m(n(c(ppppp)))",
		"m(n(c(p)c(pp)c(p)))",
		"m(n(c(pp))n(c(pp)))",
		"m(n(c(p))n(c(p))n(c(p)))",
		"m(n(c(pp)c(p))n(c(p))n(c(p)c(ppp)))",
		"m(n(c(p))n(c(p))n(c(p))n(c(p))n(c(p))n(c(p))n(c(p))n(c(p)))",
		"m(n(c(pppppppp)c(pppppppp)c(pppppppp)c(pppppppp)))",
		"m(n(c(pppp)c(pppp))n(c(pppp)c(pppp))n(c(pppp)c(pppp))n(c(pppp)c(pppp)))",
	} {
		t[s] = tree(s)
	}
	return t
}

// empty are Runs of a tree in which nobody stands.
func empty(t []api.Vertex, size int) runs.Runs {
	r, e := runs.New(t, size)
	if e != api.OK {
		panic(fmt.Sprint("no Runs of the size ", size, ": ", e))
	}
	return r
}

// crowd are Runs in which somebody stands everywhere, and each ring is full:
// behind p, whose Next is 10p + 10, 10p + 11 and 10p + 12, and in the row of n
// 1000n + 1000 and the two behind it.
func crowd(t []api.Vertex) runs.Runs {
	r := empty(t, 2)
	for p := range r.Rings {
		g := 10*p + 10
		r.Rings[p] = ring.Ring{Next: g, L: []int{g + 1, g + 2}}
	}
	for n := range r.Shared {
		g := 1000*n + 1000
		r.Shared[n] = []int{g, g + 1, g + 2}
	}
	return r
}

// unplugged are the same Runs, in which p isn't plugged and nobody stands in its
// ring.
func unplugged(r runs.Runs, p int) runs.Runs {
	r = copied(r)
	r.Rings[p], r.On = ring.Ring{}, r.On.Without(p)
	return r
}

// copied are the same Runs, that share nothing with these.
func copied(r runs.Runs) runs.Runs {
	s := runs.Runs{Tree: append([]api.Vertex{}, r.Tree...), Size: r.Size, On: r.On}
	for _, x := range r.Rings {
		s.Rings = append(s.Rings, ring.Ring{Next: x.Next, L: append([]int{}, x.L...)})
	}
	for _, row := range r.Shared {
		s.Shared = append(s.Shared, append([]int{}, row...))
	}
	return s
}

// same tells whether two Runs are the same, nil and empty, too.
func same(a, b runs.Runs) bool {
	alike := func(x, y ring.Ring) bool { return x.Next == y.Next && slices.Equal(x.L, y.L) }
	return slices.Equal(a.Tree, b.Tree) && a.Size == b.Size && a.On == b.On &&
		slices.EqualFunc(a.Rings, b.Rings, alike) && slices.EqualFunc(a.Shared, b.Shared, slices.Equal)
}

// member tells whether a number's bit stands in a Set.
func member(s bits.Set, n int) bool {
	return 0 <= n && n < 64 && uint64(s)/(1<<n)%2 == 1
}

// way is who lies above a processor, step by step: it itself, its core, its
// node, the machine.
type way [4]int

// ways are those of all processors.
func ways(t []api.Vertex) []way {
	var l []way
	for _, v := range topo.Procs(t) {
		core := t[v].Parent
		l = append(l, way{v, core, t[core].Parent, 0})
	}
	return l
}

// node is the place among the nodes of the one that lies above p.
func node(t []api.Vertex, p int) int {
	return slices.Index(topo.Nodes(t), ways(t)[p][2])
}

// apart is how many steps up from two processors their ways meet.
func apart(a, b way) int {
	steps := 0
	for a[steps] != b[steps] {
		steps++
	}
	return steps
}

// readied is the document's Ready, one by one.
func readied(r runs.Runs, p, g int) (runs.Runs, api.Errno) {
	s := copied(r)
	if !runs.May(r) || p < 0 || p >= len(r.Rings) || g <= 0 {
		return s, api.ErrArg
	}
	if slices.Contains(runs.All(r), g) {
		return s, api.ErrThere
	}
	x, row := &s.Rings[p], &s.Shared[node(r.Tree, p)]
	if !member(r.On, p) {
		*row = append(*row, g)
		return s, api.OK
	}
	was := x.Next
	x.Next = g
	if was == 0 {
		return s, api.OK
	}
	if len(x.L) < r.Size {
		x.L = append(x.L, was)
		return s, api.OK
	}
	for range r.Size / 2 {
		*row = append(*row, x.L[0])
		x.L = x.L[1:]
	}
	*row = append(*row, was)
	return s, api.OK
}

// woken is the document's Wake, looked for one step up after the other, and at
// each one round and round.
func woken(r runs.Runs, idle bits.Set, p int) int {
	if !runs.May(r) || p < 0 || p >= len(r.Rings) {
		return -1
	}
	w := ways(r.Tree)
	for up := range 4 {
		for steps := range r.Rings {
			q := (p + steps) % len(r.Rings)
			if apart(w[p], w[q]) == up && member(idle, q) && member(r.On, q) {
				return q
			}
		}
	}
	return -1
}

// readies holds Ready against the document's words, and tells what it tells: the
// Runs that were handed in stay; who is ready stands at p, or in its node's row,
// and all others still stand, once.
func readies(t *testing.T, r runs.Runs, p, g int) (runs.Runs, api.Errno) {
	t.Helper()
	// Told of a failure alone: texts of all Runs would take long.
	name := func() string { return fmt.Sprintf("Ready of %v, of %d and %d", r, p, g) }
	keep := copied(r)
	s, e := place.Ready(r, p, g)
	if !same(r, keep) {
		t.Fatalf("%s: handed in was %v", name(), keep)
	}
	if want, f := readied(r, p, g); !same(s, want) || e != f {
		t.Fatalf("%s: %v, %d, not %v, %d", name(), s, e, want, f)
	}
	if runs.May(s) != runs.May(r) {
		t.Fatalf("%s: %v, whether they may be: %t", name(), s, runs.May(s))
	}
	if e != api.OK {
		if !same(s, keep) {
			t.Fatalf("%s: the error %d, with %v", name(), e, s)
		}
		return s, e
	}
	at, row := runs.Where(s, g)
	if plugged := member(r.On, p); plugged && at != p || !plugged && (at != -1 || row != node(r.Tree, p)) {
		t.Fatalf("%s: it stands at %d, %d", name(), at, row)
	}
	if !slices.Equal(sorted(runs.All(s)), sorted(append(runs.All(r), g))) {
		t.Fatalf("%s: there stand %v", name(), runs.All(s))
	}
	return s, e
}

// wakes holds Wake against the document's words, and tells who is woken: the
// Runs stay; that one is idle, and plugged, and nobody who is both is nearer.
func wakes(t *testing.T, r runs.Runs, idle bits.Set, p int) int {
	t.Helper()
	name := func() string { return fmt.Sprintf("Wake of %v, idle %v, of %d", r, idle.All(), p) }
	keep := copied(r)
	q := place.Wake(r, idle, p)
	if !same(r, keep) {
		t.Fatalf("%s: handed in was %v", name(), keep)
	}
	if want := woken(r, idle, p); q != want {
		t.Fatalf("%s: %d, not %d", name(), q, want)
	}
	if q == -1 {
		return q
	}
	if q < 0 || q >= len(r.Rings) || !member(idle, q) || !member(r.On, q) {
		t.Fatalf("%s: %d", name(), q)
	}
	w := ways(r.Tree)
	for other := range w {
		if member(idle, other) && member(r.On, other) && apart(w[p], w[other]) < apart(w[p], w[q]) {
			t.Fatalf("%s: %d, and %d is nearer", name(), q, other)
		}
	}
	return q
}

// sorted is a list, rising.
func sorted(l []int) []int {
	return slices.Sorted(slices.Values(l))
}

// row is the numbers from a to b.
func row(a, b int) []int {
	var l []int
	for g := a; g <= b; g++ {
		l = append(l, g)
	}
	return l
}

// mixer tells numbers in a turn that looks like none, the same each time.
type mixer uint32

// below is a number from 0 to k - 1.
func (m *mixer) below(k int) int {
	*m = *m*1664525 + 1013904223
	return int(*m>>8) % k
}
