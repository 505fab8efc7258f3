package topo_test

import (
	"math"
	"slices"
	"testing"

	"catafalque/api"
	"catafalque/topo"
)

// asCounted holds Check against the document's word.
func asCounted(t *testing.T, x []api.Vertex) {
	t.Helper()
	want := api.ErrForm
	if may(x) {
		want = api.OK
	}
	if e := topo.Check(x); e != want {
		t.Fatalf("Check(%v) is %d, not %d", x, e, want)
	}
}

// P1.1: trees that may be.
func TestCheckFair(t *testing.T) {
	for name, x := range fair() {
		if e := topo.Check(x); e != api.OK {
			t.Errorf("%s: %d", name, e)
		}
	}
	if n := len(full()); n != api.MaxVerts {
		t.Errorf("the greatest tree has %d vertices", n)
	}
}

// P1.1: each of the bounds, passed by one.
func TestCheckFoul(t *testing.T) {
	two := tree([]int{2}, []int{2}) // 0 m, 1 n, 2 c, 3 p, 4 p, 5 n, 6 c, 7 p, 8 p
	for name, x := range map[string][]api.Vertex{
		"nil":                        nil,
		"empty":                      {},
		"a machine alone":            {{Parent: -1}},
		"a node alone":               {{Parent: -1, Level: api.Node}},
		"a node without a core":      two[:2],
		"a core without a processor": two[:3],
		"no node":                    tree(),
		"one node of two is empty":   tree([]int{1}, nil),
		"one core of two is empty":   tree([]int{1, 0}),
		"65 vertices":                tree(rows(8, 2, 1, 1)...),
		"33 processors":              tree(append(rows(4, 8), []int{1})...),
		"9 nodes":                    tree(rows(9, 1)...),
		"9 cores":                    tree([]int{1, 1, 1, 1, 1, 1, 1, 1, 1}),
		"9 processors of a core":     tree([]int{9}),
		"the first has a Parent":     with(two, 0, api.Vertex{Parent: 0}),
		"the first's Parent is -2":   with(two, 0, api.Vertex{Parent: -2}),
		"the first is a node":        with(two, 0, api.Vertex{Parent: -1, Level: api.Node}),
		"the first's Level is -1":    with(two, 0, api.Vertex{Parent: -1, Level: -1}),
		"five Levels":                {{Parent: -1, Level: -1}, {Parent: 0, Level: 0}, {Parent: 1, Level: 1}, {Parent: 2, Level: 2}, {Parent: 3, Level: 3}},
		"a second first one":         with(two, 5, api.Vertex{Parent: -1}),
		"its own Parent":             with(two, 6, api.Vertex{Parent: 6, Level: api.Core}),
		"a Parent behind":            with(two, 3, api.Vertex{Parent: 6, Level: api.Proc}),
		"a Parent that is none":      with(two, 8, api.Vertex{Parent: 9, Level: api.Proc}),
		"a Parent below 0":           with(two, 1, api.Vertex{Parent: -1, Level: api.Node}),
		"a Level too small":          with(two, 4, api.Vertex{Parent: 2, Level: api.Core}),
		"a Level too great":          with(two, 5, api.Vertex{Parent: 0, Level: api.Core}),
		"a Level left out":           with(two, 8, api.Vertex{Parent: 5, Level: api.Proc}),
		"one below a processor":      append(slices.Clone(two), api.Vertex{Parent: 8, Level: 4}),
		"Levels round the bound":     append(slices.Clone(two), api.Vertex{Parent: 8, Level: math.MaxInt}, api.Vertex{Parent: 9, Level: math.MinInt}),
	} {
		if e := topo.Check(x); e != api.ErrForm {
			t.Errorf("%s: %d", name, e)
		}
	}
}

// P1.1: so many nodes, of so many cores, of so many processors each.
func TestCheckBounds(t *testing.T) {
	for a := range 10 {
		for b := range 10 {
			for c := range 10 {
				kids := min(a, b, c) >= 1 && max(a, b, c) <= 8
				want := api.ErrForm
				if kids && 1+a+a*b+a*b*c <= 64 && a*b*c <= 32 {
					want = api.OK
				}
				x := tree(rows(a, slices.Repeat([]int{c}, b)...)...)
				if e := topo.Check(x); e != want {
					t.Errorf("%d nodes of %d cores of %d: %d", a, b, c, e)
				}
				if a*b*c > 0 && topo.Check(wide(x)) != want {
					t.Errorf("%d nodes of %d cores of %d, level by level", a, b, c)
				}
			}
		}
	}
}

// P1.1: whatever stands in a list.
func TestCheckAnything(t *testing.T) {
	for n := range 5 {
		lists(n, func(x []api.Vertex) { asCounted(t, x) })
	}
	for _, x := range fair() {
		for v := range x {
			for p := -2; p <= len(x)+1; p++ {
				asCounted(t, with(x, v, api.Vertex{Parent: p, Level: x[v].Level}))
			}
			for _, n := range odd {
				asCounted(t, with(x, v, api.Vertex{Parent: n, Level: x[v].Level}))
				asCounted(t, with(x, v, api.Vertex{Parent: x[v].Parent, Level: n}))
				asCounted(t, with(x, v, api.Vertex{Parent: n, Level: n}))
			}
			asCounted(t, x[:v])
			asCounted(t, append(slices.Clone(x), x[v]))
		}
	}
}

// P1.1: who is below one.
func TestKids(t *testing.T) {
	two := tree([]int{2}, []int{1, 1}) // 0 m, 1 n, 2 c, 3 p, 4 p, 5 n, 6 c, 7 p, 8 c, 9 p
	for _, c := range []struct {
		t    []api.Vertex
		v    int
		want []int
	}{
		{two, 0, []int{1, 5}},
		{two, 1, []int{2}},
		{two, 2, []int{3, 4}},
		{two, 5, []int{6, 8}},
		{two, 9, nil},
		{two, 10, nil},
		{two, -1, []int{0}},
		{two, -2, nil},
		{two, math.MinInt, nil},
		{two, math.MaxInt, nil},
		{wide(two), 0, []int{1, 2}},
		{wide(two), 1, []int{3}},
		{wide(two), 2, []int{4, 5}},
		{tree([]int{8}), 2, []int{3, 4, 5, 6, 7, 8, 9, 10}},
		{nil, 0, nil},
		{nil, -1, nil},
		{[]api.Vertex{{Parent: 0}, {Parent: 7}, {Parent: 0}}, 0, []int{0, 2}},
		{[]api.Vertex{{Parent: 0}, {Parent: 7}, {Parent: 0}}, 7, []int{1}},
		{[]api.Vertex{{Parent: math.MinInt}, {Parent: math.MaxInt}}, math.MinInt, []int{0}},
		{make([]api.Vertex, 66), 1, nil},
	} {
		if l := topo.Kids(c.t, c.v); !slices.Equal(l, c.want) {
			t.Errorf("Kids(%v, %d) is %v, not %v", c.t, c.v, l, c.want)
		}
	}
	if l := topo.Kids(make([]api.Vertex, 100), 0); len(l) != 100 || l[99] != 99 {
		t.Errorf("of 100 below one: %v", l)
	}
}

// P1.2: the vertices of two Levels.
func TestProcsNodes(t *testing.T) {
	for _, c := range []struct {
		t            []api.Vertex
		procs, nodes []int
	}{
		{tree([]int{2}), []int{3, 4}, []int{1}},
		{tree([]int{2}, []int{1, 1}), []int{3, 4, 7, 9}, []int{1, 5}},
		{wide(tree([]int{2}, []int{1, 1})), []int{6, 7, 8, 9}, []int{1, 2}},
		{nil, nil, nil},
		{[]api.Vertex{}, nil, nil},
		{[]api.Vertex{{Parent: -1}}, nil, nil},
		{[]api.Vertex{{Parent: 9, Level: 3}, {Parent: -7, Level: 1}, {Level: 4}, {Level: 3}, {Level: -1}, {Level: 2}, {Level: 1}}, []int{0, 3}, []int{1, 6}},
		{[]api.Vertex{{Level: math.MinInt}, {Level: math.MaxInt}}, nil, nil},
	} {
		if l := topo.Procs(c.t); !slices.Equal(l, c.procs) {
			t.Errorf("Procs(%v) is %v, not %v", c.t, l, c.procs)
		}
		if l := topo.Nodes(c.t); !slices.Equal(l, c.nodes) {
			t.Errorf("Nodes(%v) is %v, not %v", c.t, l, c.nodes)
		}
	}
	if p, n := topo.Procs(full()), topo.Nodes(full()); len(p) != 32 || len(n) != 7 || !slices.IsSorted(p) || !slices.IsSorted(n) {
		t.Errorf("of 64 vertices: %v, %v", p, n)
	}
	many := slices.Repeat([]api.Vertex{{Level: api.Proc}, {Level: api.Node}}, 50)
	if p, n := topo.Procs(many), topo.Nodes(many); len(p) != 50 || p[49] != 98 || len(n) != 50 || n[49] != 99 {
		t.Errorf("of 100 vertices: %v, %v", p, n)
	}
}

// P1.2: up from Parent to Parent.
func TestUp(t *testing.T) {
	two := tree([]int{2}, []int{1, 1}) // 0 m, 1 n, 2 c, 3 p, 4 p, 5 n, 6 c, 7 p, 8 c, 9 p
	for _, c := range []struct {
		t              []api.Vertex
		v, level, want int
	}{
		{two, 9, api.Proc, 9},
		{two, 9, api.Core, 8},
		{two, 9, api.Node, 5},
		{two, 9, api.Machine, 0},
		{two, 4, api.Node, 1},
		{two, 0, api.Machine, 0},
		{two, 0, api.Node, -1},
		{two, 1, api.Core, -1},
		{two, 9, 4, -1},
		{two, 9, -1, -1},
		{two, 10, api.Machine, -1},
		{two, -1, api.Machine, -1},
		{two, math.MaxInt, api.Machine, -1},
		{two, math.MinInt, api.Machine, -1},
		{nil, 0, 0, -1},
		{nil, -1, -1, -1},
		// The way ends at a Parent that is not ahead, but not before it.
		{with(two, 8, api.Vertex{Parent: 8, Level: api.Core}), 9, api.Node, -1},
		{with(two, 8, api.Vertex{Parent: 8, Level: api.Core}), 9, api.Core, 8},
		{with(two, 8, api.Vertex{Parent: 9, Level: api.Core}), 9, api.Node, -1},
		{with(two, 3, api.Vertex{Parent: 5, Level: api.Proc}), 3, api.Node, -1},
		{with(two, 6, api.Vertex{Parent: 10, Level: api.Core}), 7, api.Node, -1},
		{with(two, 6, api.Vertex{Parent: -2, Level: api.Core}), 7, api.Node, -1},
		{with(two, 0, api.Vertex{Parent: 0, Level: api.Machine}), 7, api.Machine, 0},
		{with(two, 0, api.Vertex{Parent: 0, Level: api.Proc}), 7, api.Machine, -1},
		{with(two, 0, api.Vertex{Parent: -1, Level: 9}), 7, 9, 0},
		{with(two, 9, api.Vertex{Parent: 8, Level: math.MinInt}), 9, math.MinInt, 9},
		// The first one that is met, of more of that Level.
		{[]api.Vertex{{Parent: -1, Level: 1}, {Parent: 0, Level: 1}, {Parent: 1, Level: 3}}, 2, 1, 1},
	} {
		if v := topo.Up(c.t, c.v, c.level); v != c.want {
			t.Errorf("Up(%v, %d, %d) is %d, not %d", c.t, c.v, c.level, v, c.want)
		}
	}
}

// P1.1, P1.2, P1: whatever stands in a list, and whatever is asked of it.
func TestAnything(t *testing.T) {
	for n := range 4 {
		lists(n, func(x []api.Vertex) {
			for v := -2; v <= n+1; v++ {
				for level := -2; level <= api.Proc+2; level++ {
					if got, want := topo.Up(x, v, level), up(x, v, level); got != want {
						t.Fatalf("Up(%v, %d, %d) is %d, not %d", x, v, level, got, want)
					}
				}
			}
		})
	}
	for _, p := range odd {
		for _, level := range odd {
			x := append(tree([]int{2}), api.Vertex{Parent: p, Level: level})
			for _, v := range odd {
				if hung := slices.Contains(topo.Kids(x, v), 5); hung != (v == p) {
					t.Errorf("Kids(%v, %d)", x, v)
				}
				if got, want := topo.Up(x, v, level), up(x, v, level); got != want {
					t.Errorf("Up(%v, %d, %d) is %d, not %d", x, v, level, got, want)
				}
			}
		}
	}
}

// P1.3: each processor is come to, going down, from one node, and each vertex
// from the first one, once.
func TestBelow(t *testing.T) {
	for name, x := range fair() {
		var down func(v int) []int
		down = func(v int) []int {
			l := []int{v}
			for _, k := range topo.Kids(x, v) {
				l = append(l, down(k)...)
			}
			return l
		}
		all := down(0)
		slices.Sort(all)
		if len(all) != len(x) || len(slices.Compact(all)) != len(x) {
			t.Errorf("%s: below the first one: %v", name, all)
		}
		for v := range x {
			if topo.Up(x, v, api.Machine) != 0 {
				t.Errorf("%s: %d isn't below the first one", name, v)
			}
		}
		for _, p := range topo.Procs(x) {
			var over []int
			for _, n := range topo.Nodes(x) {
				if slices.Contains(down(n), p) {
					over = append(over, n)
				}
			}
			if len(over) != 1 || over[0] != topo.Up(x, p, api.Node) {
				t.Errorf("%s: %d lies below %v", name, p, over)
			}
		}
	}
}

// P1.3: of no list that passes Check does any vertex lie elsewhere.
func TestBelowOfLists(t *testing.T) {
	passed := 0
	lists(4, func(x []api.Vertex) {
		if topo.Check(x) != api.OK {
			return
		}
		passed++
		for v := range x {
			if topo.Up(x, v, api.Machine) != 0 {
				t.Errorf("%v: %d isn't below the first one", x, v)
			}
		}
		for _, p := range topo.Procs(x) {
			if n := topo.Up(x, p, api.Node); !slices.Contains(topo.Nodes(x), n) {
				t.Errorf("%v: %d lies below %d", x, p, n)
			}
		}
	})
	if passed != 1 {
		t.Errorf("%d lists of four pass", passed)
	}
}

// R3: nothing is changed, and nothing shared.
func TestNothingShared(t *testing.T) {
	x := full()
	keep := slices.Clone(x)
	for name, ask := range map[string]func() []int{
		"Procs": func() []int { return topo.Procs(x) },
		"Nodes": func() []int { return topo.Nodes(x) },
		"Kids":  func() []int { return topo.Kids(x, 0) },
	} {
		one := ask()
		want := slices.Clone(one)
		for k := range one {
			one[k] = -9
		}
		if two := ask(); !slices.Equal(two, want) {
			t.Errorf("%s: %v, not %v", name, two, want)
		}
	}
	topo.Check(x)
	topo.Up(x, 63, api.Machine)
	if !slices.Equal(x, keep) {
		t.Error("the tree is another one")
	}
}
