package steal_test

import (
	"fmt"
	"math"
	"slices"
	"testing"

	"catafalque/api"
	"catafalque/ring"
	"catafalque/runs"
	"catafalque/steal"
	"catafalque/text"
	"catafalque/topo"
)

// fars are how far one may go, with the edges, and beyond.
var fars = []int{math.MinInt, -4, -1, 0, 1, 2, 3, 4, 5, 64, math.MaxInt}

// tree is a text's.
func tree(s string) []api.Vertex {
	t, at, e := text.Parse(s)
	if e != api.OK {
		panic(fmt.Sprint("the text ", s, " is wrong at ", at))
	}
	return t
}

// mixed has processors that stand in another turn than their nodes: 0, 3 and 4
// are of the node 1, and 1, 2 and 5 of the node 0.
func mixed() []api.Vertex {
	above := []int{-1, 0, 0, 2, 1, 3, 1, 2, 6, 4, 7, 3, 6}
	level := []int{0, 1, 1, 2, 2, 3, 2, 2, 3, 3, 3, 3, 3}
	var t []api.Vertex
	for v, x := range above {
		t = append(t, api.Vertex{Parent: x, Level: level[v]})
	}
	return t
}

// trees are of one node and of several, with one core and several, the least
// and the greatest ones among them.
func trees() map[string][]api.Vertex {
	t := map[string][]api.Vertex{"mixed": mixed()}
	for _, s := range []string{
		"m(n(c(p)))",
		"m(n(c(pp)))",
		"m(n(c(ppppp)))",
		"m(n(c(p)c(pp)c(p)))",
		"m(n(c(pp))n(c(pp)))",
		"m(n(c(p))n(c(p))n(c(p)))",
		"m(n(c(pp)c(p))n(c(p))n(c(p)c(ppp)))",
		"m(n(c(p))n(c(p))n(c(p))n(c(p))n(c(p))n(c(p))n(c(p))n(c(p)))",
		"m(n(c(pppppppp)c(pppppppp)c(pppppppp)c(pppppppp)))",
		"m(n(c(pppp)c(pppp))n(c(pppp)c(pppp))n(c(pppp)c(pppp))n(c(pppp)c(pppp)))",
	} {
		t[s] = tree(s)
	}
	return t
}

// empty are Runs of a tree in which nobody stands.
func empty(t []api.Vertex, size int) runs.Runs {
	r, e := runs.New(t, size)
	if e != api.OK {
		panic(fmt.Sprint("no Runs of the size ", size, ": ", e))
	}
	return r
}

// crowd are Runs in which somebody stands everywhere: behind p, whose Next is
// 10p + 10, 10p + 11 and 10p + 12, and in the row of n 1000n + 1000 and the two
// behind it.
func crowd(t []api.Vertex) runs.Runs {
	r := empty(t, 2)
	for p := range r.Rings {
		g := 10*p + 10
		r.Rings[p] = ring.Ring{Next: g, L: []int{g + 1, g + 2}}
	}
	for n := range r.Shared {
		g := 1000*n + 1000
		r.Shared[n] = []int{g, g + 1, g + 2}
	}
	return r
}

// robbed are Runs in which p is a thief: they have nobody in its ring and in the
// row of its node any more.
func robbed(r runs.Runs, p int) runs.Runs {
	r = copied(r)
	r.Rings[p], r.Shared[node(r.Tree, p)] = ring.Ring{}, nil
	return r
}

// copied are the same Runs, that share nothing with these.
func copied(r runs.Runs) runs.Runs {
	s := runs.Runs{Tree: append([]api.Vertex{}, r.Tree...), Size: r.Size, On: r.On}
	for _, x := range r.Rings {
		s.Rings = append(s.Rings, ring.Ring{Next: x.Next, L: append([]int{}, x.L...)})
	}
	for _, row := range r.Shared {
		s.Shared = append(s.Shared, append([]int{}, row...))
	}
	return s
}

// same tells whether two Runs are the same, nil and empty, too.
func same(a, b runs.Runs) bool {
	alike := func(x, y ring.Ring) bool { return x.Next == y.Next && slices.Equal(x.L, y.L) }
	return slices.Equal(a.Tree, b.Tree) && a.Size == b.Size && a.On == b.On &&
		slices.EqualFunc(a.Rings, b.Rings, alike) && slices.EqualFunc(a.Shared, b.Shared, slices.Equal)
}

// way is who lies above a processor, step by step: it itself, its core, its
// node, the machine.
type way [4]int

// ways are those of all processors.
func ways(t []api.Vertex) []way {
	var l []way
	for _, v := range topo.Procs(t) {
		core := t[v].Parent
		l = append(l, way{v, core, t[core].Parent, 0})
	}
	return l
}

// node is the place among the nodes of the one that lies above p.
func node(t []api.Vertex, p int) int {
	return slices.Index(topo.Nodes(t), ways(t)[p][2])
}

// apart is how many steps up from two processors their ways meet.
func apart(a, b way) int {
	steps := 0
	for a[steps] != b[steps] {
		steps++
	}
	return steps
}

// robbable are the document's Victims, looked for one step up after the other,
// and at each one round and round.
func robbable(r runs.Runs, p, far int) []int {
	if !runs.May(r) || p < 0 || p >= len(r.Rings) {
		return nil
	}
	var l []int
	w := ways(r.Tree)
	for up := 1; up <= 3 && up <= far; up++ {
		for steps := 1; steps < len(r.Rings); steps++ {
			q := (p + steps) % len(r.Rings)
			if x := r.Rings[q]; (x.Next != 0 || len(x.L) > 0) && apart(w[p], w[q]) == up {
				l = append(l, q)
			}
		}
	}
	return l
}

// stolen is the document's Steal, one by one.
func stolen(r runs.Runs, p, far int) (runs.Runs, int, int) {
	s := copied(r)
	if !runs.May(r) || p < 0 || p >= len(r.Rings) || !slices.Contains(r.On.All(), p) {
		return s, 0, -1
	}
	home := node(r.Tree, p)
	if x := r.Rings[p]; x.Next != 0 || len(x.L) > 0 || len(r.Shared[home]) > 0 {
		return s, 0, -1
	}
	if l := robbable(r, p, far); len(l) > 0 {
		w := ways(r.Tree)
		x, up := &s.Rings[l[0]], apart(w[p], w[l[0]])
		if len(x.L) == 0 {
			g := x.Next
			x.Next = 0
			return s, g, up
		}
		g := x.L[0]
		x.L = x.L[1:]
		for len(s.Rings[p].L)+1 < len(x.L) {
			s.Rings[p].L = append(s.Rings[p].L, x.L[0])
			x.L = x.L[1:]
		}
		return s, g, up
	}
	for n := home + 1; far >= 3 && n < home+len(s.Shared); n++ {
		if row := &s.Shared[n%len(s.Shared)]; len(*row) > 0 {
			g := (*row)[0]
			*row = (*row)[1:]
			return s, g, 3
		}
	}
	return s, 0, -1
}

// steals holds Victims and Steal against the document's words, and tells what
// Steal tells: the Runs that were handed in stay; nobody is lost, who is told
// stands nowhere any more, and Runs that may be still may.
func steals(t *testing.T, r runs.Runs, p, far int) (runs.Runs, int, int) {
	t.Helper()
	// Told of a failure alone: texts of all Runs would take long.
	name := func() string { return fmt.Sprintf("of %v, of %d, %d at most", r, p, far) }
	keep := copied(r)
	if l, want := steal.Victims(r, p, far), robbable(r, p, far); !slices.Equal(l, want) {
		t.Fatalf("Victims %s: %v, not %v", name(), l, want)
	}
	s, g, up := steal.Steal(r, p, far)
	if !same(r, keep) {
		t.Fatalf("Steal %s: handed in was %v", name(), keep)
	}
	if want, h, w := stolen(r, p, far); !same(s, want) || g != h || up != w {
		t.Fatalf("Steal %s: %v, %d, %d, not %v, %d, %d", name(), s, g, up, want, h, w)
	}
	if runs.May(s) != runs.May(r) {
		t.Fatalf("Steal %s: %v, whether they may be: %t", name(), s, runs.May(s))
	}
	if up < 0 {
		if g != 0 || !same(s, keep) {
			t.Fatalf("Steal %s: nobody is %d, with %v", name(), g, s)
		}
		return s, g, up
	}
	left := slices.DeleteFunc(runs.All(r), func(h int) bool { return h == g })
	if !slices.Equal(sorted(runs.All(s)), sorted(left)) || len(left) != len(runs.All(r))-1 {
		t.Fatalf("Steal %s: %d is told, and there stand %v", name(), g, runs.All(s))
	}
	return s, g, up
}

// sorted is a list, rising.
func sorted(l []int) []int {
	return slices.Sorted(slices.Values(l))
}

// row is the numbers from a to b.
func row(a, b int) []int {
	var l []int
	for g := a; g <= b; g++ {
		l = append(l, g)
	}
	return l
}

// mixer tells numbers in a turn that looks like none, the same each time.
type mixer uint32

// below is a number from 0 to k - 1.
func (m *mixer) below(k int) int {
	*m = *m*1664525 + 1013904223
	return int(*m>>8) % k
}
