package balance_test

import (
	"fmt"
	"slices"
	"strings"
	"testing"

	"catafalque/api"
	"catafalque/balance"
	"catafalque/ring"
	"catafalque/runs"
	"catafalque/text"
)

// tree is a text's.
func tree(s string) []api.Vertex {
	t, at, e := text.Parse(s)
	if e != api.OK {
		panic(fmt.Sprint("the text ", s, " is wrong at ", at))
	}
	return t
}

// mixed has processors that stand in another turn than their nodes: 0, 3 and 4
// are of the node 1, and 1, 2 and 5 of the node 0.
func mixed() []api.Vertex {
	above := []int{-1, 0, 0, 2, 1, 3, 1, 2, 6, 4, 7, 3, 6}
	level := []int{0, 1, 1, 2, 2, 3, 2, 2, 3, 3, 3, 3, 3}
	var t []api.Vertex
	for v, x := range above {
		t = append(t, api.Vertex{Parent: x, Level: level[v]})
	}
	return t
}

// trees are of one node and of several, with one core and several, the least
// and the greatest ones among them.
func trees() map[string][]api.Vertex {
	t := map[string][]api.Vertex{"mixed": mixed()}
	for _, s := range []string{
		"m(n(c(p)))",
		"m(n(c(pp)))",
		"m(n(c(ppppp)))",
		"m(n(c(p)c(pp)c(p)))",
		"m(n(c(pp))n(c(pp)))",
		"m(n(c(p))n(c(p))n(c(p)))",
		"m(n(c(pp)c(p))n(c(p))n(c(p)c(ppp)))",
		"m(n(c(p))n(c(p))n(c(p))n(c(p))n(c(p))n(c(p))n(c(p))n(c(p)))",
		"m(n(c(pppppppp)c(pppppppp)c(pppppppp)c(pppppppp)))",
		"m(n(c(pppp)c(pppp))n(c(pppp)c(pppp))n(c(pppp)c(pppp))n(c(pppp)c(pppp)))",
	} {
		t[s] = tree(s)
	}
	return t
}

// empty are Runs of a tree in which nobody stands.
func empty(t []api.Vertex, size int) runs.Runs {
	r, e := runs.New(t, size)
	if e != api.OK {
		panic(fmt.Sprint("no Runs of the size ", size, ": ", e))
	}
	return r
}

// crowd are Runs in which somebody stands everywhere, and each ring is full:
// behind p, whose Next is 10p + 10, 10p + 11 and 10p + 12, and in the row of n
// 1000n + 1000 and the two behind it.
func crowd(t []api.Vertex) runs.Runs {
	r := empty(t, 2)
	for p := range r.Rings {
		g := 10*p + 10
		r.Rings[p] = ring.Ring{Next: g, L: []int{g + 1, g + 2}}
	}
	for n := range r.Shared {
		g := 1000*n + 1000
		r.Shared[n] = []int{g, g + 1, g + 2}
	}
	return r
}

// nodes is a tree of so many nodes, each with a processor.
func nodes(n int) []api.Vertex {
	return tree("m(" + strings.Repeat("n(c(p))", n) + ")")
}

// rows are Runs with a node for each number, in whose row so many stand: 1 is
// the first one of the first row, and all others are numbered in turn.
func rows(lengths ...int) runs.Runs {
	r := empty(nodes(len(lengths)), 2)
	g := 1
	for n, long := range lengths {
		r.Shared[n] = row(g, g+long-1)
		g += long
	}
	return r
}

// lengths are how many stand in each row.
func lengths(r runs.Runs) []int {
	var l []int
	for _, row := range r.Shared {
		l = append(l, len(row))
	}
	return l
}

// copied are the same Runs, that share nothing with these.
func copied(r runs.Runs) runs.Runs {
	s := runs.Runs{Tree: append([]api.Vertex{}, r.Tree...), Size: r.Size, On: r.On}
	for _, x := range r.Rings {
		s.Rings = append(s.Rings, ring.Ring{Next: x.Next, L: append([]int{}, x.L...)})
	}
	for _, row := range r.Shared {
		s.Shared = append(s.Shared, append([]int{}, row...))
	}
	return s
}

// alike tells whether two rings are the same, nil and empty, too.
func alike(x, y ring.Ring) bool {
	return x.Next == y.Next && slices.Equal(x.L, y.L)
}

// same tells whether two Runs are the same, nil and empty, too.
func same(a, b runs.Runs) bool {
	return slices.Equal(a.Tree, b.Tree) && a.Size == b.Size && a.On == b.On &&
		slices.EqualFunc(a.Rings, b.Rings, alike) && slices.EqualFunc(a.Shared, b.Shared, slices.Equal)
}

// ended are the document's Ends: who is first, if the nodes are sorted by their
// rows' lengths, falling and rising, and those that are as long stay in turn.
func ended(r runs.Runs) (int, int) {
	var falling []int
	for n := range r.Shared {
		falling = append(falling, n)
	}
	if falling == nil {
		return -1, -1
	}
	rising := slices.Clone(falling)
	slices.SortStableFunc(falling, func(a, b int) int { return len(r.Shared[b]) - len(r.Shared[a]) })
	slices.SortStableFunc(rising, func(a, b int) int { return len(r.Shared[a]) - len(r.Shared[b]) })
	return falling[0], rising[0]
}

// balanced is the document's Balance, one by one: the last one of the longest
// row goes ahead of those who went before it, but behind all others, as long as
// there are two more to each that goes.
func balanced(r runs.Runs) (runs.Runs, int) {
	s := copied(r)
	if !runs.May(r) {
		return s, 0
	}
	a, b := ended(r)
	long, short := &s.Shared[a], &s.Shared[b]
	end, more, moved := len(*short), len(*long)-len(*short), 0
	for ; more >= 2; more -= 2 {
		last := len(*long) - 1
		*short = slices.Insert(*short, end, (*long)[last])
		*long = (*long)[:last]
		moved++
	}
	return s, moved
}

// balances holds Ends and Balance against the document's words, and tells what
// Balance tells: the Runs that were handed in stay, and all who stood there still
// stand, once.
func balances(t *testing.T, r runs.Runs) (runs.Runs, int) {
	t.Helper()
	// Told of a failure alone: texts of all Runs would take long.
	name := func() string { return fmt.Sprintf("of %v", r) }
	keep := copied(r)
	a, b := balance.Ends(r)
	if x, y := ended(r); a != x || b != y {
		t.Fatalf("Ends %s: %d, %d, not %d, %d", name(), a, b, x, y)
	}
	s, moved := balance.Balance(r)
	if !same(r, keep) {
		t.Fatalf("Balance %s: handed in was %v", name(), keep)
	}
	if want, many := balanced(r); !same(s, want) || moved != many {
		t.Fatalf("Balance %s: %v, %d, not %v, %d", name(), s, moved, want, many)
	}
	if runs.May(s) != runs.May(r) {
		t.Fatalf("Balance %s: %v, whether they may be: %t", name(), s, runs.May(s))
	}
	if !slices.Equal(sorted(runs.All(s)), sorted(runs.All(r))) {
		t.Fatalf("Balance %s: there stand %v", name(), runs.All(s))
	}
	if moved == 0 && !same(s, keep) {
		t.Fatalf("Balance %s: nobody is moved, with %v", name(), s)
	}
	return s, moved
}

// sorted is a list, rising.
func sorted(l []int) []int {
	return slices.Sorted(slices.Values(l))
}

// row is the numbers from a to b.
func row(a, b int) []int {
	var l []int
	for g := a; g <= b; g++ {
		l = append(l, g)
	}
	return l
}

// mixer tells numbers in a turn that looks like none, the same each time.
type mixer uint32

// below is a number from 0 to k - 1.
func (m *mixer) below(k int) int {
	*m = *m*1664525 + 1013904223
	return int(*m>>8) % k
}
