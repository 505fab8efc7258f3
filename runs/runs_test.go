package runs_test

import (
	"slices"
	"testing"

	"catafalque/api"
	"catafalque/bits"
	"catafalque/ring"
	"catafalque/runs"
)

// The document's example.
func TestExample(t *testing.T) {
	r := made(t, tree([]int{2}), 2)
	for g := 1; g <= 4; g++ {
		r = puts(t, r, 0, g)
	}
	x := r.Rings[0]
	if x.Next != 4 || !slices.Equal(x.L, []int{2}) || !slices.Equal(r.Shared[0], []int{1, 3}) {
		t.Errorf("they stand so: %v", r)
	}
}

// P15.1: nobody stands there, and all are plugged.
func TestNew(t *testing.T) {
	for _, c := range []struct {
		t            []api.Vertex
		procs, nodes int
		on           bits.Set
	}{
		{tree([]int{1}), 1, 1, 1},
		{tree([]int{4}), 4, 1, 15},
		{tree([]int{2}, []int{2}), 4, 2, 15},
		{tree([]int{1}, []int{2, 1}, []int{1}), 5, 3, 31},
		{mixed(), 6, 2, 63},
		{tree(rows(8, 1)...), 8, 8, 255},
		{tree([]int{8, 8, 8, 8}), 32, 1, 1<<32 - 1},
		{tree(rows(4, 8)...), 32, 4, 1<<32 - 1},
		{tree(rows(8, 2, 2)...), 32, 8, 1<<32 - 1},
	} {
		for size := 2; size <= 16; size++ {
			keep := slices.Clone(c.t)
			r := made(t, c.t, size)
			if !slices.Equal(c.t, keep) || !slices.Equal(r.Tree, keep) {
				t.Errorf("of the tree %v: %v, and it is %v", keep, r.Tree, c.t)
			}
			if r.Size != size || len(r.Rings) != c.procs || len(r.Shared) != c.nodes || r.On != c.on {
				t.Errorf("New(%v, %d) is %v", c.t, size, r)
			}
			for p, x := range r.Rings {
				if x.Next != 0 || len(x.L) != 0 {
					t.Errorf("New(%v, %d): at %d stands %v", c.t, size, p, x)
				}
			}
			for n, row := range r.Shared {
				if len(row) != 0 {
					t.Errorf("New(%v, %d): in the row %d stand %v", c.t, size, n, row)
				}
			}
			if !runs.May(r) || len(runs.All(r)) != 0 {
				t.Errorf("New(%v, %d) may be: %t, of %v", c.t, size, runs.May(r), runs.All(r))
			}
			stands(t, r)
		}
	}
}

// P15.1: what is no tree, and sizes that there aren't; the tree's error first.
func TestNewWrong(t *testing.T) {
	sizes := slices.Concat(odd, []int{0, 1, 17, 18, 32})
	for name, x := range foul() {
		for _, size := range slices.Concat(sizes, []int{2, 3, 16}) {
			if r, e := runs.New(x, size); e != api.ErrForm || !same(r, runs.Runs{}) {
				t.Errorf("%s, the size %d: %v, %d", name, size, r, e)
			}
		}
	}
	for name, x := range fair() {
		for _, size := range sizes {
			if r, e := runs.New(x, size); e != api.ErrArg || !same(r, runs.Runs{}) {
				t.Errorf("%s, the size %d: %v, %d", name, size, r, e)
			}
		}
	}
}

// P15.1: those in rings, who is next first, by processors, and then those in
// rows, by nodes.
func TestAll(t *testing.T) {
	for _, c := range []struct {
		r    runs.Runs
		want []int
	}{
		{some(), []int{4, 9, 2, 7, 5, 11, 1, 12, 3, 8, 6, 10, 20, 15}},
		{with(func(r *runs.Runs) { r.Rings[0] = ring.Ring{Next: 4} }), []int{4, 7, 5, 11, 1, 12, 3, 8, 6, 10, 20, 15}},
		{with(func(r *runs.Runs) { r.Rings[0] = ring.Ring{} }), []int{7, 5, 11, 1, 12, 3, 8, 6, 10, 20, 15}},
		{with(func(r *runs.Runs) { r.Rings = nil }), []int{8, 6, 10, 20, 15}},
		{with(func(r *runs.Runs) { r.Rings = r.Rings[3:] }), []int{5, 11, 1, 12, 3, 8, 6, 10, 20, 15}},
		{with(func(r *runs.Runs) { r.Shared = nil }), []int{4, 9, 2, 7, 5, 11, 1, 12, 3}},
		{with(func(r *runs.Runs) { r.Shared = [][]int{nil, {}, {33}, {32, 31}} }), []int{4, 9, 2, 7, 5, 11, 1, 12, 3, 33, 32, 31}},
		// Who stands there is told, also where nobody may.
		{with(func(r *runs.Runs) { r.On, r.Tree, r.Size = 0, nil, -1 }), []int{4, 9, 2, 7, 5, 11, 1, 12, 3, 8, 6, 10, 20, 15}},
		{with(func(r *runs.Runs) { r.Rings[1] = ring.Ring{Next: -1, L: []int{0, 4}} }), []int{4, 9, 2, -1, 0, 4, 5, 11, 1, 12, 3, 8, 6, 10, 20, 15}},
		{with(func(r *runs.Runs) { r.Shared[0] = []int{0, 10, 10} }), []int{4, 9, 2, 7, 5, 11, 1, 12, 3, 0, 10, 10, 10, 20, 15}},
		{runs.Runs{}, nil},
		{runs.Runs{Rings: make([]ring.Ring, 4), Shared: make([][]int, 3)}, nil},
		{runs.Runs{Rings: make([]ring.Ring, 40), Shared: [][]int{{5}}}, []int{5}},
	} {
		if l := runs.All(c.r); !slices.Equal(l, c.want) {
			t.Errorf("All(%v) is %v, not %v", c.r, l, c.want)
		}
		stands(t, c.r)
	}
}

// P15.2: to a ring until it is full, and beyond: the first half of it goes
// behind the row of the processor's node, and, behind it, who was next.
func TestPutBeyond(t *testing.T) {
	for _, c := range []struct {
		size, n int
		l, row  []int
	}{
		{2, 1, nil, nil},
		{2, 2, []int{1}, nil},
		{2, 3, []int{1, 2}, nil},
		{2, 4, []int{2}, []int{1, 3}},
		{2, 5, []int{2, 4}, []int{1, 3}},
		{2, 6, []int{4}, []int{1, 3, 2, 5}},
		{2, 8, []int{6}, []int{1, 3, 2, 5, 4, 7}},
		{3, 4, []int{1, 2, 3}, nil},
		{3, 5, []int{2, 3}, []int{1, 4}},
		{3, 7, []int{3, 5}, []int{1, 4, 2, 6}},
		{4, 5, []int{1, 2, 3, 4}, nil},
		{4, 6, []int{3, 4}, []int{1, 2, 5}},
		{4, 9, []int{6, 7}, []int{1, 2, 5, 3, 4, 8}},
		{16, 17, []int{1, 2, 3, 4, 5, 6, 7, 8, 9, 10, 11, 12, 13, 14, 15, 16}, nil},
		{16, 18, []int{9, 10, 11, 12, 13, 14, 15, 16}, []int{1, 2, 3, 4, 5, 6, 7, 8, 17}},
	} {
		for _, p := range []int{0, 2, 4} {
			r := made(t, tree([]int{2, 1}, []int{2}), c.size)
			for g := 1; g <= c.n; g++ {
				r = puts(t, r, p, g)
			}
			want := made(t, r.Tree, c.size)
			want.Rings[p] = ring.Ring{Next: c.n, L: c.l}
			want.Shared[p/3] = c.row
			if !same(r, want) {
				t.Errorf("the size %d, %d to %d: %v", c.size, c.n, p, r)
			}
		}
	}
}

// P15.2: what a node's processors have no room for stands in its own row,
// behind what stood there; other nodes' rows stay.
func TestPutToOthers(t *testing.T) {
	r := made(t, tree([]int{1, 1}, []int{2}), 2)
	for g := 1; g <= 4; g++ {
		r = puts(t, r, 0, g)
	}
	for g := 11; g <= 14; g++ {
		r = puts(t, r, 1, g)
	}
	for g := 21; g <= 24; g++ {
		r = puts(t, r, 3, g)
	}
	r = pushes(t, r, 0, 5)
	r = puts(t, puts(t, r, 0, 6), 0, 7)
	want := made(t, r.Tree, 2)
	want.Rings = []ring.Ring{{Next: 7, L: []int{4}}, {Next: 14, L: []int{12}}, {}, {Next: 24, L: []int{22}}}
	want.Shared = [][]int{{1, 3, 11, 13, 5, 2, 6}, {21, 23}}
	if !same(r, want) {
		t.Errorf("they stand so: %v", r)
	}
}

// P15.2: the row of the node that lies above the processor, also where they
// don't stand in one turn.
func TestPutMixed(t *testing.T) {
	for p, n := range []int{1, 0, 0, 1, 1, 0} {
		r := made(t, mixed(), 2)
		for g := 1; g <= 4; g++ {
			r = puts(t, r, p, g)
		}
		if !slices.Equal(r.Shared[n], []int{1, 3}) || len(r.Shared[1-n]) != 0 {
			t.Errorf("behind %d stand %v", p, r.Shared)
		}
	}
}

// P15.2: a ring whose next one is nobody, with others, and without.
func TestPutWithoutNext(t *testing.T) {
	for _, l := range [][]int{nil, {}, {7}, {7, 8}, {7, 8, 9}} {
		r := with(func(r *runs.Runs) { r.Rings[0], r.Rings[1] = ring.Ring{L: l}, ring.Ring{} })
		r.Shared = [][]int{{31, 32}, {33}}
		s, e := runs.Put(r, 0, 30)
		if x := s.Rings[0]; e != api.OK || x.Next != 30 || !slices.Equal(x.L, l) {
			t.Errorf("with %v: %v, %d", l, s, e)
		}
		if !slices.EqualFunc(s.Shared, r.Shared, slices.Equal) {
			t.Errorf("with %v: %v", l, s.Shared)
		}
		puts(t, r, 0, 30)
	}
}

// P15.2: to the ends of the greatest tree, and to each place of each.
func TestEachPlace(t *testing.T) {
	for name, x := range fair() {
		for _, size := range []int{2, 3, 16} {
			r := made(t, x, size)
			g := 1
			for range 2*size + 3 {
				for p := range r.Rings {
					r = puts(t, r, p, g)
					g++
				}
			}
			for n := range r.Shared {
				r = pushes(t, r, n, g)
				if row := r.Shared[n]; row[len(row)-1] != g {
					t.Errorf("%s: in the row %d stand %v", name, n, row)
				}
				g++
			}
			if l := slices.Sorted(slices.Values(runs.All(r))); len(l) != g-1 || l[0] != 1 || l[g-2] != g-1 {
				t.Errorf("%s: of %d stand there %d", name, g-1, len(l))
			}
			stands(t, r)
		}
	}
}

// P15.2: behind those in that row; nobody else goes elsewhere.
func TestPush(t *testing.T) {
	for n, want := range [][]int{{8, 6, 30}, {10, 20, 15, 30}} {
		r := pushes(t, some(), n, 30)
		if !slices.Equal(r.Shared[n], want) {
			t.Errorf("in the row %d stand %v", n, r.Shared[n])
		}
		r.Shared[n] = some().Shared[n]
		if !same(r, some()) {
			t.Errorf("all others stand so: %v", r)
		}
	}
	r := made(t, tree(rows(3, 1)...), 2)
	for g := 1; g <= 300; g++ {
		r = pushes(t, r, g%3, g)
	}
	for n, row := range r.Shared {
		if len(row) != 100 || row[0]%3 != n || !slices.IsSorted(row) {
			t.Errorf("in the row %d stand %v", n, row)
		}
	}
}

// P15.2: a row is there also for a node none of whose processors is plugged.
func TestPushUnplugged(t *testing.T) {
	r := made(t, tree([]int{2}, []int{2}), 2)
	r.On = bits.Of(3)
	r = pushes(t, r, 0, 1)
	r = puts(t, r, 3, 2)
	if !slices.Equal(r.Shared[0], []int{1}) || r.Rings[3].Next != 2 {
		t.Errorf("they stand so: %v", r)
	}
	for p := range 3 {
		if s, e := runs.Put(r, p, 3); e != api.ErrNone || !same(s, r) {
			t.Errorf("Put to %d: %v, %d", p, s, e)
		}
	}
}

// P15.3: each one that stands, and some that don't.
func TestWhere(t *testing.T) {
	for g, want := range map[int][2]int{
		4: {0, -1}, 9: {0, -1}, 2: {0, -1}, 7: {1, -1}, 5: {3, -1}, 11: {4, -1}, 1: {4, -1}, 12: {4, -1}, 3: {4, -1},
		8: {-1, 0}, 6: {-1, 0}, 10: {-1, 1}, 20: {-1, 1}, 15: {-1, 1},
		0: {-1, -1}, -1: {-1, -1}, 13: {-1, -1}, 14: {-1, -1}, 64: {-1, -1}, -4: {-1, -1},
	} {
		if p, n := runs.Where(some(), g); [2]int{p, n} != want {
			t.Errorf("%d stands at %d, %d, not %v", g, p, n, want)
		}
	}
	stands(t, some())
}

// P15.3: the first place, of more; whatever stands there.
func TestWhereFirst(t *testing.T) {
	r := runs.Runs{
		Rings:  []ring.Ring{{Next: 1, L: []int{2, 0}}, {Next: 3, L: []int{1, -5}}, {L: []int{2, 4, 3}}},
		Shared: [][]int{{5, 4}, {6, 0, -5}, {5, 6, 1, -7}},
	}
	for g, want := range map[int][2]int{
		1: {0, -1}, 2: {0, -1}, 3: {1, -1}, 4: {2, -1}, 5: {-1, 0}, 6: {-1, 1}, 0: {0, -1}, -5: {1, -1}, -7: {-1, 2}, 7: {-1, -1},
	} {
		if p, n := runs.Where(r, g); [2]int{p, n} != want {
			t.Errorf("%d stands at %d, %d, not %v", g, p, n, want)
		}
	}
	stands(t, r)
	stands(t, runs.Runs{})
	stands(t, runs.Runs{Rings: make([]ring.Ring, 40), Shared: make([][]int, 40)})
	r.Rings[0].L = nil
	r.Shared[1] = []int{6}
	if p, n := runs.Where(r, 0); p != -1 || n != -1 {
		t.Errorf("nobody stands at %d, %d", p, n)
	}
}

// P15.4: whoever comes, to wherever, stands there, and all others still stand,
// each once.
func TestNothingLost(t *testing.T) {
	for seed := range 60 {
		m := mixer(seed)
		x := [][]api.Vertex{tree([]int{1}), tree([]int{2, 1}, []int{2}), mixed(), tree(rows(8, 2, 2)...)}[seed%4]
		r := made(t, x, 2+m.below(15))
		for p := range r.Rings {
			if p > 0 && m.below(4) == 0 {
				r.On = r.On.Without(p)
			}
		}
		var in []int
		for range 120 {
			g := 1 + m.below(150)
			was := runs.All(r)
			var s runs.Runs
			if m.below(3) == 0 {
				s = pushes(t, r, m.below(len(r.Shared)+1), g)
			} else {
				s = puts(t, r, m.below(len(r.Rings)+1), g)
			}
			if now := runs.All(s); len(now) > len(was) {
				in = append(in, g)
			}
			r = s
			l := slices.Sorted(slices.Values(runs.All(r)))
			if !slices.Equal(l, slices.Sorted(slices.Values(in))) || len(slices.Compact(l)) != len(in) {
				t.Fatalf("of %v stand there %v", in, l)
			}
		}
		stands(t, r)
	}
}
