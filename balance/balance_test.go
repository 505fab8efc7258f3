package balance_test

import (
	"slices"
	"testing"

	"catafalque/api"
	"catafalque/balance"
	"catafalque/ring"
	"catafalque/runs"
)

// The document's example: the rows 1, 2, 3, 4, 5 and none.
func TestExample(t *testing.T) {
	r := empty(tree("m(n(c(p))n(c(p)))"), 2)
	r.Shared[0] = []int{1, 2, 3, 4, 5}
	s, moved := balances(t, r)
	want := copied(r)
	want.Shared = [][]int{{1, 2, 3}, {4, 5}}
	if moved != 2 || !same(s, want) {
		t.Errorf("%v, %d", s, moved)
	}
	if s, moved = balances(t, s); moved != 0 || !same(s, want) {
		t.Errorf("and again %v, %d", s, moved)
	}
}

// P19.1: Ends are the first of the longest rows, and the first of the shortest.
func TestEnds(t *testing.T) {
	for _, c := range []struct {
		lengths []int
		a, b    int
	}{
		{[]int{0}, 0, 0},
		{[]int{5}, 0, 0},
		{[]int{0, 0}, 0, 0},
		{[]int{3, 3}, 0, 0},
		{[]int{1, 0}, 0, 1},
		{[]int{0, 1}, 1, 0},
		{[]int{2, 5, 3}, 1, 0},
		{[]int{5, 2, 3}, 0, 1},
		{[]int{3, 5, 2}, 1, 2},
		{[]int{2, 3, 5}, 2, 0},
		{[]int{4, 4, 4}, 0, 0},
		{[]int{4, 4, 1, 1}, 0, 2},
		{[]int{1, 1, 4, 4}, 2, 0},
		{[]int{1, 4, 1, 4}, 1, 0},
		{[]int{2, 4, 1, 4, 1, 2}, 1, 2},
		{[]int{2, 1, 2, 3, 1, 3}, 3, 1},
		{[]int{7, 6, 5, 4, 3, 2, 1, 0}, 0, 7},
		{[]int{0, 1, 2, 3, 4, 5, 6, 7}, 7, 0},
		{[]int{1, 1, 1, 1, 1, 1, 1, 0}, 0, 7},
		{[]int{0, 0, 0, 0, 0, 0, 0, 1}, 7, 0},
		{[]int{9, 9, 9, 9, 9, 9, 9, 9}, 0, 0},
	} {
		r := rows(c.lengths...)
		if a, b := balance.Ends(r); a != c.a || b != c.b {
			t.Errorf("of rows of %v: %d, %d, not %d, %d", c.lengths, a, b, c.a, c.b)
		}
		// Who stands in rings makes no row longer.
		for p := range r.Rings {
			if c.lengths[p] < 3 {
				r.Rings[p] = ring.Ring{Next: 100*p + 101, L: []int{100*p + 102, 100*p + 103}}
			}
		}
		if a, b := balance.Ends(r); a != c.a || b != c.b {
			t.Errorf("of rows of %v, and rings: %d, %d, not %d, %d", c.lengths, a, b, c.a, c.b)
		}
		balances(t, r)
	}
}

// P19.1: half as many as the longest row is longer are moved, rounded down,
// whether it stands ahead of the shortest or behind it.
func TestHalf(t *testing.T) {
	for _, c := range []struct{ long, short, moved int }{
		{0, 0, 0}, {1, 0, 0}, {2, 0, 1}, {3, 0, 1}, {4, 0, 2}, {5, 0, 2}, {6, 0, 3}, {7, 0, 3},
		{1, 1, 0}, {2, 1, 0}, {3, 1, 1}, {4, 1, 1}, {5, 1, 2}, {6, 1, 2},
		{9, 9, 0}, {9, 8, 0}, {9, 7, 1}, {9, 6, 1}, {9, 5, 2}, {9, 4, 2}, {9, 3, 3}, {9, 2, 3}, {9, 1, 4},
		{61, 2, 29}, {62, 2, 30}, {64, 0, 32}, {64, 63, 0}, {1000, 1, 499}, {1001, 1, 500},
	} {
		for ahead, r := range map[bool]runs.Runs{true: rows(c.long, c.short), false: rows(c.short, c.long)} {
			s, moved := balances(t, r)
			want := []int{c.long - c.moved, c.short + c.moved}
			if !ahead {
				slices.Reverse(want)
			}
			if l := lengths(s); moved != c.moved || !slices.Equal(l, want) {
				t.Errorf("of %v: %v, %d, not %v, %d", lengths(r), l, moved, want, c.moved)
			}
		}
	}
}

// P19.1: who is moved was last in the longest row, and stands last in the
// shortest, in turn.
func TestInTurn(t *testing.T) {
	for _, c := range []struct {
		rows, want [][]int
		moved      int
	}{
		{[][]int{{5, 3}, nil}, [][]int{{5}, {3}}, 1},
		{[][]int{nil, {5, 3}}, [][]int{{3}, {5}}, 1},
		{[][]int{{5, 3, 9, 1}, nil}, [][]int{{5, 3}, {9, 1}}, 2},
		{[][]int{{8}, {5, 3, 9, 1}}, [][]int{{8, 1}, {5, 3, 9}}, 1},
		{[][]int{{8}, {5, 3, 9, 1, 4}}, [][]int{{8, 1, 4}, {5, 3, 9}}, 2},
		{[][]int{{5, 3, 9, 1, 4, 2, 7}, {8, 6}}, [][]int{{5, 3, 9, 1, 4}, {8, 6, 2, 7}}, 2},
		{[][]int{{9}, {5, 3, 4, 2, 7, 1, 12, 11}, {8, 6}}, [][]int{{9, 1, 12, 11}, {5, 3, 4, 2, 7}, {8, 6}}, 3},
		{[][]int{{8, 6}, {9}, {5, 3, 4, 2, 7, 1, 12}}, [][]int{{8, 6}, {9, 7, 1, 12}, {5, 3, 4, 2}}, 3},
		{[][]int{{5, 4, 3}, {8, 7, 6}, {9}, {10}}, [][]int{{5, 4}, {8, 7, 6}, {9, 3}, {10}}, 1},
		{[][]int{{9}, {10}, {5, 4, 3}, {8, 7, 6}}, [][]int{{9, 3}, {10}, {5, 4}, {8, 7, 6}}, 1},
	} {
		r := empty(nodes(len(c.rows)), 2)
		r.Shared = c.rows
		want := copied(r)
		want.Shared = c.want
		if s, moved := balances(t, r); moved != c.moved || !same(s, want) {
			t.Errorf("of %v: %v, %d", c.rows, s.Shared, moved)
		}
	}
}

// P19.1: all other rows, all rings and who is plugged stay as they were, of each
// tree, whichever row is the longest, and whichever the shortest.
func TestOthers(t *testing.T) {
	for name, x := range trees() {
		full := crowd(x)
		for p := range full.Rings {
			if p%3 == 1 {
				full.Rings[p], full.On = ring.Ring{}, full.On.Without(p)
			}
		}
		for a := range full.Shared {
			for b := range full.Shared {
				r := copied(full)
				r.Shared[b] = []int{500}
				r.Shared[a] = row(600, 608)
				s, moved := balances(t, r)
				want := copied(r)
				many := 0
				if a != b {
					many = 4
					want.Shared[a], want.Shared[b] = row(600, 604), append([]int{500}, row(605, 608)...)
				} else if len(r.Shared) > 1 {
					// The others have three each: the first of them is the shortest.
					many = 3
					want.Shared[a], want.Shared[first(a)] = row(600, 605), append(slices.Clone(r.Shared[first(a)]), row(606, 608)...)
				}
				if moved != many || !same(s, want) {
					t.Errorf("%s: from %d to %d: %v, %d, not %v, %d", name, a, b, s, moved, want, many)
				}
			}
		}
	}
}

// first is the first node that isn't n.
func first(n int) int {
	if n == 0 {
		return 1
	}
	return 0
}

// P19.1: who stands in rings is moved nowhere, and counts for no row: neither of
// plugged ones nor of a node with many.
func TestRings(t *testing.T) {
	r := empty(tree("m(n(c(pppp))n(c(p)))"), 16)
	for p := range 4 {
		r.Rings[p] = ring.Ring{Next: 100*p + 100, L: row(100*p+101, 100*p+116)}
	}
	if s, moved := balances(t, r); moved != 0 || !same(s, r) {
		t.Errorf("with nobody in a row: %v, %d", s, moved)
	}
	r.Shared[1] = []int{1, 2, 3, 4}
	s, moved := balances(t, r)
	want := copied(r)
	want.Shared = [][]int{{3, 4}, {1, 2}}
	if moved != 2 || !same(s, want) {
		t.Errorf("with 4 in the other row: %v, %d", s, moved)
	}
}

// P19.1: nobody is moved with one node, whoever stands there, with rows that are
// all empty or all as long, with a longest row of one, or one more in the
// longest one alone.
func TestNobody(t *testing.T) {
	for _, l := range [][]int{
		{0}, {1}, {2}, {64}, {1000},
		{0, 0}, {0, 0, 0}, {0, 0, 0, 0, 0, 0, 0, 0},
		{1, 1}, {5, 5, 5}, {64, 64}, {9, 9, 9, 9, 9, 9, 9, 9},
		{1, 0}, {0, 1}, {1, 0, 1}, {0, 1, 0}, {1, 0, 0, 0, 0, 0, 0, 0}, {0, 1, 1, 1, 1, 1, 1, 1},
		{3, 4}, {4, 3}, {3, 4, 4, 3}, {8, 7, 8, 7, 8, 7, 8, 7},
	} {
		r := rows(l...)
		if s, moved := balances(t, r); moved != 0 || !same(s, r) {
			t.Errorf("of %v: %v, %d", l, s, moved)
		}
	}
	for name, x := range trees() {
		for _, size := range []int{2, 9, 16} {
			if s, moved := balances(t, empty(x, size)); moved != 0 || !same(s, empty(x, size)) {
				t.Errorf("%s: of nobody: %v, %d", name, s, moved)
			}
			if s, moved := balances(t, crowd(x)); moved != 0 || !same(s, crowd(x)) {
				t.Errorf("%s: of rows of three: %v, %d", name, s, moved)
			}
		}
	}
}

// P19.1: with as many nodes as there may be, one row after the other.
func TestManyNodes(t *testing.T) {
	r := rows(3, 9, 0, 4, 9, 0, 1, 2)
	for k, c := range []struct {
		moved   int
		lengths []int
	}{
		{4, []int{3, 5, 4, 4, 9, 0, 1, 2}},
		{4, []int{3, 5, 4, 4, 5, 4, 1, 2}},
		{2, []int{3, 3, 4, 4, 5, 4, 3, 2}},
		{1, []int{3, 3, 4, 4, 4, 4, 3, 3}},
		{0, []int{3, 3, 4, 4, 4, 4, 3, 3}},
	} {
		s, moved := balances(t, r)
		if r = s; moved != c.moved || !slices.Equal(lengths(r), c.lengths) {
			t.Errorf("the %d. time: %v, %d, not %v, %d", k+1, lengths(r), moved, c.lengths, c.moved)
		}
	}
	// The rows had 1 to 3, 4 to 12, none, 13 to 16, 17 to 25, none, 26, and 27, 28.
	want := [][]int{{1, 2, 3}, {4, 5, 6}, {9, 10, 11, 12}, {13, 14, 15, 16}, {17, 18, 19, 20}, {22, 23, 24, 25}, {26, 7, 8}, {27, 28, 21}}
	if !slices.EqualFunc(r.Shared, want, slices.Equal) {
		t.Errorf("the rows are %v, not %v", r.Shared, want)
	}
}

// P19.2: balanced as often as there are rows and those who stand in them, no row
// is longer than another one by more than one, and nobody is moved any more;
// nobody is lost on the way.
func TestAgain(t *testing.T) {
	for seed := range 60 {
		m := mixer(seed)
		l := make([]int, 1+m.below(8))
		for n := range l {
			l[n] = m.below(1 + m.below(60))
		}
		even(t, rows(l...))
	}
	for _, l := range [][]int{{64, 0, 0, 0, 0, 0, 0, 0}, {0, 0, 0, 0, 0, 0, 0, 64}, {1000, 1}, {0, 999, 0}, {7, 6, 5, 4, 3, 2, 1, 0}, {2, 0, 0, 0}, {20, 20, 20, 0}, {0, 1, 1, 1, 3}} {
		even(t, rows(l...))
	}
}

// P19.2: the same of each tree, with rings, and processors that aren't plugged.
func TestAgainEach(t *testing.T) {
	for name, x := range trees() {
		for seed := range 5 {
			m := mixer(seed)
			r := empty(x, 2+m.below(15))
			for p := range r.Rings {
				if p > 0 && m.below(3) == 0 {
					r.On = r.On.Without(p)
				}
			}
			for g := 1; g <= 64; g++ {
				var e api.Errno
				if p := m.below(len(r.Rings)); r.On.Has(p) && m.below(2) == 0 {
					r, e = runs.Put(r, p, g)
				} else {
					r, e = runs.Push(r, m.below(1+m.below(len(r.Shared))), g)
				}
				if e != api.OK {
					t.Fatalf("%s: %d: %d", name, g, e)
				}
			}
			even(t, r)
		}
	}
}

// even balances Runs again and again, and holds what P19.2 says against them.
func even(t *testing.T, r runs.Runs) {
	t.Helper()
	s, times := r, len(r.Shared)
	for _, row := range r.Shared {
		times += len(row)
	}
	for range times {
		l := lengths(s)
		next, moved := balances(t, s)
		if wide := slices.Max(l) - slices.Min(l); (moved == 0) != (wide < 2) {
			t.Fatalf("of %v are moved %d", l, moved)
		}
		s = next
	}
	if l := lengths(s); slices.Max(l)-slices.Min(l) > 1 {
		t.Fatalf("of %v, the %d. time: %v", lengths(r), times, l)
	}
	if last, moved := balances(t, s); moved != 0 || !same(last, s) {
		t.Fatalf("of %v, once more: %v, %d", lengths(s), last, moved)
	}
	if !slices.Equal(sorted(runs.All(s)), sorted(runs.All(r))) {
		t.Fatalf("of %v stand there %v", r, s)
	}
}
