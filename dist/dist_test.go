package dist_test

import (
	"slices"
	"testing"

	"catafalque/api"
	"catafalque/dist"
	"catafalque/topo"
)

// P2.1: processors that are one, of one core, of one node, of two nodes.
func TestFar(t *testing.T) {
	x := tree([]int{2, 1}, []int{2}) // 0 and 1, 2; 3 and 4
	for _, c := range []struct {
		t          []api.Vertex
		a, b, want int
	}{
		{x, 0, 0, 0},
		{x, 4, 4, 0},
		{x, 0, 1, 1},
		{x, 3, 4, 1},
		{x, 0, 2, 2},
		{x, 1, 2, 2},
		{x, 1, 3, 3},
		{x, 2, 3, 3},
		{x, 0, 4, 3},
		{tree([]int{1}), 0, 0, 0},
		{tree([]int{2}, []int{2}), 0, 1, 1},
		{tree([]int{2}, []int{2}), 0, 2, 3},
		{tree(rows(4, 8)...), 31, 31, 0},
		{tree(rows(4, 8)...), 31, 24, 1},
		{tree(rows(4, 8)...), 31, 23, 3},
		{tree([]int{8, 8, 8, 8}), 31, 0, 2},
		{tree(rows(8, 2, 2)...), 31, 29, 2},
		{full(), 0, 31, 3},
		{mixed(), 0, 4, 1},
		{mixed(), 1, 5, 1},
		{mixed(), 0, 3, 2},
		{mixed(), 2, 1, 2},
		{mixed(), 0, 1, 3},
		{mixed(), 3, 5, 3},
	} {
		if d := dist.Far(c.t, c.a, c.b); d != c.want {
			t.Errorf("Far(%v, %d, %d) is %d, not %d", c.t, c.a, c.b, d, c.want)
		}
		if d := dist.Far(c.t, c.b, c.a); d != c.want {
			t.Errorf("Far(%v, %d, %d) is %d, not %d", c.t, c.b, c.a, d, c.want)
		}
	}
}

// P2.1: nodes count from 0 on, as they stand in the tree.
func TestNode(t *testing.T) {
	for _, c := range []struct {
		t    []api.Vertex
		want []int
	}{
		{tree([]int{1}), []int{0}},
		{tree([]int{2}, []int{2}), []int{0, 0, 1, 1}},
		{tree([]int{1, 3}, []int{2}, []int{1, 1, 4}), []int{0, 0, 0, 0, 1, 1, 2, 2, 2, 2, 2, 2}},
		{tree(rows(8, 1)...), []int{0, 1, 2, 3, 4, 5, 6, 7}},
		{tree([]int{1, 1, 1, 1, 1, 1, 1, 1}), []int{0, 0, 0, 0, 0, 0, 0, 0}},
		{mixed(), []int{1, 0, 0, 1, 1, 0}},
	} {
		for p, want := range c.want {
			if n := dist.Node(c.t, p); n != want {
				t.Errorf("Node(%v, %d) is %d, not %d", c.t, p, n, want)
			}
		}
	}
	if n := dist.Node(tree(rows(8, 2, 2)...), 31); n != 7 {
		t.Errorf("the 32nd processor is of the node %d", n)
	}
}

// P2.2: the nearest first, and of one Far round behind p.
func TestNear(t *testing.T) {
	two := tree([]int{2}, []int{2})
	uneven := tree([]int{1, 2}, []int{2}) // 0, 1 and 2; 3 and 4
	for _, c := range []struct {
		t    []api.Vertex
		p    int
		want []int
	}{
		{two, 0, []int{1, 2, 3}},
		{two, 1, []int{0, 2, 3}},
		{two, 2, []int{3, 0, 1}},
		{two, 3, []int{2, 0, 1}},
		{uneven, 0, []int{1, 2, 3, 4}},
		{uneven, 1, []int{2, 0, 3, 4}},
		{uneven, 2, []int{1, 0, 3, 4}},
		{uneven, 3, []int{4, 0, 1, 2}},
		{uneven, 4, []int{3, 0, 1, 2}},
		{tree([]int{1}), 0, nil},
		{tree([]int{4}), 2, []int{3, 0, 1}},
		{tree([]int{1, 1, 1, 1}), 3, []int{0, 1, 2}},
		{tree(rows(4, 1)...), 1, []int{2, 3, 0}},
		{mixed(), 0, []int{4, 3, 1, 2, 5}},
		{mixed(), 1, []int{5, 2, 3, 4, 0}},
		{mixed(), 2, []int{5, 1, 3, 4, 0}},
		{mixed(), 5, []int{1, 2, 0, 3, 4}},
		{tree(rows(4, 8)...), 31, []int{24, 25, 26, 27, 28, 29, 30, 0, 1, 2, 3, 4, 5, 6, 7, 8, 9, 10, 11, 12, 13, 14, 15, 16, 17, 18, 19, 20, 21, 22, 23}},
		{tree(rows(4, 8)...), 13, []int{14, 15, 8, 9, 10, 11, 12, 16, 17, 18, 19, 20, 21, 22, 23, 24, 25, 26, 27, 28, 29, 30, 31, 0, 1, 2, 3, 4, 5, 6, 7}},
	} {
		if l := dist.Near(c.t, c.p); !slices.Equal(l, c.want) {
			t.Errorf("Near(%v, %d) is %v, not %v", c.t, c.p, l, c.want)
		}
	}
}

// P2.2: of each, in turn, how far each is.
func TestTable(t *testing.T) {
	for _, c := range []struct {
		t    []api.Vertex
		want [][]int
	}{
		{tree([]int{1}), [][]int{{0}}},
		{tree([]int{2}, []int{2}), [][]int{{0, 1, 3, 3}, {1, 0, 3, 3}, {3, 3, 0, 1}, {3, 3, 1, 0}}},
		{tree([]int{1, 2}, []int{1}), [][]int{{0, 2, 2, 3}, {2, 0, 1, 3}, {2, 1, 0, 3}, {3, 3, 3, 0}}},
		{mixed(), [][]int{{0, 3, 3, 2, 1, 3}, {3, 0, 2, 3, 3, 1}, {3, 2, 0, 3, 3, 2}, {2, 3, 3, 0, 2, 3}, {1, 3, 3, 2, 0, 3}, {3, 1, 2, 3, 3, 0}}},
	} {
		if rows := dist.Table(c.t); !slices.EqualFunc(rows, c.want, slices.Equal) {
			t.Errorf("Table(%v) is %v, not %v", c.t, rows, c.want)
		}
	}
}

// asCounted holds all calls against the document's words, of a tree that may
// be, and of one that may not.
func asCounted(t *testing.T, x []api.Vertex) {
	t.Helper()
	n := 0
	if topo.Check(x) == api.OK {
		n = count(x, len(x), api.Proc)
	}
	table := dist.Table(x)
	if len(table) != n {
		t.Fatalf("Table(%v) has %d rows, not %d", x, len(table), n)
	}
	for a := range n {
		if m := dist.Node(x, a); m != node(x, a) {
			t.Fatalf("Node(%v, %d) is %d, not %d", x, a, m, node(x, a))
		}
		if l := dist.Near(x, a); !slices.Equal(l, near(x, a)) {
			t.Fatalf("Near(%v, %d) is %v, not %v", x, a, l, near(x, a))
		}
		if len(table[a]) != n {
			t.Fatalf("Table(%v) has %d of %d, not %d", x, len(table[a]), a, n)
		}
		for b := range n {
			want := far(x, a, b)
			if d := dist.Far(x, a, b); d != want || table[a][b] != want {
				t.Fatalf("Far(%v, %d, %d) is %d, in the table %d, not %d", x, a, b, d, table[a][b], want)
			}
		}
	}
	for _, p := range append([]int{n, n + 1}, odd...) {
		if p < 0 || p >= n {
			nobody(t, x, p, n)
		}
	}
}

// nobody asks of a p that is none, of a tree of n processors (0: that may not
// be).
func nobody(t *testing.T, x []api.Vertex, p, n int) {
	t.Helper()
	if m := dist.Node(x, p); m != -1 {
		t.Fatalf("Node(%v, %d) is %d", x, p, m)
	}
	if l := dist.Near(x, p); len(l) != 0 {
		t.Fatalf("Near(%v, %d) is %v", x, p, l)
	}
	for _, q := range []int{p, 0, n - 1} {
		if a, b := dist.Far(x, p, q), dist.Far(x, q, p); a != -1 || b != -1 {
			t.Fatalf("Far(%v, %d, %d) is %d, and back %d", x, p, q, a, b)
		}
	}
}

// P2.1, P2.2: trees that may be, and numbers that are no processors of them.
func TestFair(t *testing.T) {
	for name, x := range fair() {
		if topo.Check(x) != api.OK {
			t.Errorf("%s may not be", name)
		}
		asCounted(t, x)
	}
}

// P2.1, P2.2: of a tree that may not be nothing is told, whatever is asked.
func TestFoul(t *testing.T) {
	for name, x := range foul() {
		if topo.Check(x) == api.OK {
			t.Errorf("%s may be", name)
		}
		if rows := dist.Table(x); len(rows) != 0 {
			t.Errorf("%s: Table is %v", name, rows)
		}
		for p := range 34 {
			nobody(t, x, p, 0)
		}
		asCounted(t, x)
	}
}

// P2.1, P2.2, P1: each vertex cut off, or hung elsewhere; what may be still is
// as counted, and of all else nothing is told.
func TestOneVertexElsewhere(t *testing.T) {
	for _, x := range [][]api.Vertex{tree([]int{1}), tree([]int{2, 1}, []int{2}), mixed()} {
		for v := range x {
			asCounted(t, x[:v])
			for parent := -2; parent <= len(x)+1; parent++ {
				for level := -1; level <= api.Proc+1; level++ {
					asCounted(t, with(x, v, api.Vertex{Parent: parent, Level: level}))
				}
			}
			for _, n := range odd {
				asCounted(t, with(x, v, api.Vertex{Parent: n, Level: x[v].Level}))
				asCounted(t, with(x, v, api.Vertex{Parent: x[v].Parent, Level: n}))
			}
		}
	}
}

// P2.3: the same both ways, of three not above the greater one of the others,
// and below 3 just within a node.
func TestBetween(t *testing.T) {
	for name, x := range fair() {
		n := len(topo.Procs(x))
		d := dist.Table(x)
		for a := range n {
			for b := range n {
				if d[a][b] != d[b][a] || dist.Far(x, a, b) != dist.Far(x, b, a) {
					t.Errorf("%s: from %d to %d it isn't as far as back", name, a, b)
				}
				if (d[a][b] == 0) != (a == b) {
					t.Errorf("%s: %d is %d from %d", name, a, d[a][b], b)
				}
				if shared := dist.Node(x, a) == dist.Node(x, b); shared != (dist.Far(x, a, b) < 3) {
					t.Errorf("%s: %d and %d: %d, one node: %t", name, a, b, d[a][b], shared)
				}
				for c := range n {
					if d[a][c] > max(d[a][b], d[b][c]) {
						t.Errorf("%s: by %d it is nearer from %d to %d", name, b, a, c)
					}
				}
			}
		}
	}
}

// R3: nothing is changed, and nothing shared, also not by two rows.
func TestNothingShared(t *testing.T) {
	x := mixed()
	keep := slices.Clone(x)
	one := dist.Near(x, 2)
	for k := range one {
		one[k] = -9
	}
	if l := dist.Near(x, 2); !slices.Equal(l, near(x, 2)) {
		t.Errorf("Near: %v", l)
	}
	table := dist.Table(x)
	for a, row := range table {
		for b := range row {
			row[b] = -9
		}
		for c, other := range table[a+1:] {
			if slices.Contains(other, -9) {
				t.Errorf("the rows %d and %d share", a, a+1+c)
			}
		}
		if _ = append(row, -9); a+1 < len(table) && slices.Contains(table[a+1], -9) {
			t.Errorf("behind the row %d stands the next", a)
		}
	}
	if rows := dist.Table(x); slices.ContainsFunc(rows, func(row []int) bool { return slices.Contains(row, -9) }) {
		t.Errorf("Table: %v", rows)
	}
	if !slices.Equal(x, keep) {
		t.Error("the tree is another one")
	}
}
