package steal_test

import (
	"slices"
	"testing"

	"catafalque/api"
	"catafalque/bits"
	"catafalque/find"
	"catafalque/ring"
	"catafalque/runs"
	"catafalque/steal"
)

// The document's example: 1 and 2 are the half of 1, 2, 3.
func TestExample(t *testing.T) {
	r := empty(tree("m(n(c(pp)))"), 4)
	r.Rings[1] = ring.Ring{L: []int{1, 2, 3}}
	s, g, far := steals(t, r, 0, 1)
	want := copied(r)
	want.Rings = []ring.Ring{{L: []int{2}}, {L: []int{3}}}
	if g != 1 || far != 1 || !same(s, want) {
		t.Errorf("%v, %d, %d", s, g, far)
	}
}

// P17.1: in whose rings somebody stands, the nearest first, round and round, and
// nobody who is farther than far says.
func TestVictims(t *testing.T) {
	// The processors 0 and 1 are of one core, 2 of their node; 3 is alone; 4 is
	// of one node with 5, 6 and 7, who are of one core.
	r := crowd(tree("m(n(c(pp)c(p))n(c(p))n(c(p)c(ppp)))"))
	for _, c := range []struct{ p, far int }{{0, 0}, {3, 2}, {3, 0}, {2, 1}, {4, 1}, {7, 0}, {7, -1}, {8, 3}, {-1, 3}} {
		if l := steal.Victims(r, c.p, c.far); len(l) != 0 {
			t.Errorf("of %d, %d at most: %v", c.p, c.far, l)
		}
	}
	for _, c := range []struct {
		p, far int
		want   []int
	}{
		{0, 1, []int{1}},
		{0, 2, []int{1, 2}},
		{0, 3, []int{1, 2, 3, 4, 5, 6, 7}},
		{0, 4, []int{1, 2, 3, 4, 5, 6, 7}},
		{1, 2, []int{0, 2}},
		{1, 3, []int{0, 2, 3, 4, 5, 6, 7}},
		{2, 2, []int{0, 1}},
		{2, 3, []int{0, 1, 3, 4, 5, 6, 7}},
		{3, 3, []int{4, 5, 6, 7, 0, 1, 2}},
		{4, 2, []int{5, 6, 7}},
		{4, 3, []int{5, 6, 7, 0, 1, 2, 3}},
		{6, 1, []int{7, 5}},
		{6, 2, []int{7, 5, 4}},
		{6, 3, []int{7, 5, 4, 0, 1, 2, 3}},
		{7, 1, []int{5, 6}},
		{7, 3, []int{5, 6, 4, 0, 1, 2, 3}},
	} {
		if l := steal.Victims(r, c.p, c.far); !slices.Equal(l, c.want) {
			t.Errorf("of %d, %d at most: %v, not %v", c.p, c.far, l, c.want)
		}
		// p's own ring, and rows, make nobody a victim, or none.
		s := copied(r)
		s.Rings[c.p] = ring.Ring{}
		clear(s.Shared)
		if l := steal.Victims(s, c.p, c.far); !slices.Equal(l, c.want) {
			t.Errorf("of %d, who has nobody, %d at most: %v, not %v", c.p, c.far, l, c.want)
		}
	}
}

// P17.1: a Next alone makes one a victim, and so do others alone.
func TestVictimsRings(t *testing.T) {
	r := empty(tree("m(n(c(pp)c(p))n(c(pp)))"), 2)
	r.Rings = []ring.Ring{{L: []int{1}}, {}, {Next: 2}, {L: []int{}}, {Next: 3, L: []int{4, 5}}}
	r.Shared = [][]int{{6}, {7}}
	for p, want := range [][]int{{2, 4}, {0, 2, 4}, {0, 4}, {4, 0, 2}, {0, 2}} {
		if l := steal.Victims(r, p, 3); !slices.Equal(l, want) {
			t.Errorf("of %d: %v, not %v", p, l, want)
		}
	}
	r.Rings = make([]ring.Ring, 5)
	for p := range 5 {
		if l := steal.Victims(r, p, 3); len(l) != 0 {
			t.Errorf("of %d, as nobody stands in a ring: %v", p, l)
		}
	}
}

// P17.1: one that isn't plugged has Victims, and is nobody's.
func TestVictimsUnplugged(t *testing.T) {
	r := crowd(tree("m(n(c(ppp))n(c(p)))"))
	r.Rings[1], r.On = ring.Ring{}, r.On.Without(1)
	for p, want := range [][]int{{2, 3}, {2, 0, 3}, {0, 3}, {0, 2}} {
		if l := steal.Victims(r, p, 3); !slices.Equal(l, want) {
			t.Errorf("of %d: %v, not %v", p, l, want)
		}
		steals(t, r, p, 3)
	}
}

// P17.2: of a victim's others the half, an odd one more; without others the Next
// alone. The first one is told, the others are the thief's.
func TestHalf(t *testing.T) {
	for _, c := range []struct {
		size    int
		x, left ring.Ring
		g       int
		own     []int
	}{
		{2, ring.Ring{Next: 9}, ring.Ring{}, 9, nil},
		{2, ring.Ring{L: []int{5}}, ring.Ring{}, 5, nil},
		{2, ring.Ring{Next: 9, L: []int{5}}, ring.Ring{Next: 9}, 5, nil},
		{2, ring.Ring{L: []int{5, 4}}, ring.Ring{L: []int{4}}, 5, nil},
		{2, ring.Ring{Next: 9, L: []int{5, 4}}, ring.Ring{Next: 9, L: []int{4}}, 5, nil},
		{3, ring.Ring{L: []int{5, 4, 7}}, ring.Ring{L: []int{7}}, 5, []int{4}},
		{3, ring.Ring{Next: 9, L: []int{5, 4, 7}}, ring.Ring{Next: 9, L: []int{7}}, 5, []int{4}},
		{4, ring.Ring{Next: 9, L: []int{5, 4, 7}}, ring.Ring{Next: 9, L: []int{7}}, 5, []int{4}},
		{4, ring.Ring{L: []int{5, 4, 7, 6}}, ring.Ring{L: []int{7, 6}}, 5, []int{4}},
		{5, ring.Ring{Next: 1, L: []int{5, 4, 7, 6, 8}}, ring.Ring{Next: 1, L: []int{6, 8}}, 5, []int{4, 7}},
		{16, ring.Ring{Next: 99, L: row(1, 15)}, ring.Ring{Next: 99, L: row(9, 15)}, 1, row(2, 8)},
		{16, ring.Ring{Next: 99, L: row(1, 16)}, ring.Ring{Next: 99, L: row(9, 16)}, 1, row(2, 8)},
		{16, ring.Ring{L: row(1, 16)}, ring.Ring{L: row(9, 16)}, 1, row(2, 8)},
	} {
		r := empty(tree("m(n(c(pp)c(p))n(c(pp)))"), c.size)
		for victim := range 5 {
			for p, far := range [][]int{{0, 1, 2, 3, 3}, {1, 0, 2, 3, 3}, {2, 2, 0, 3, 3}, {3, 3, 3, 0, 1}, {3, 3, 3, 1, 0}}[victim] {
				if p == victim {
					continue
				}
				in, want := copied(r), copied(r)
				in.Rings[victim], want.Rings[victim] = c.x, c.left
				want.Rings[p].L = c.own
				if s, g, up := steals(t, in, p, far); g != c.g || up != far || !same(s, want) {
					t.Errorf("%d of %v, the ring of %d: %v, %d, %d", p, c.x, victim, s, g, up)
				}
				if s, g, up := steals(t, in, p, far-1); g != 0 || up != -1 || !same(s, in) {
					t.Errorf("%d of %d, not so far: %v, %d, %d", p, victim, s, g, up)
				}
			}
		}
	}
}

// P17.2: the first victim alone loses somebody, whoever stands elsewhere.
func TestFirstVictim(t *testing.T) {
	for name, x := range trees() {
		w := ways(x)
		for p := range w {
			r := robbed(crowd(x), p)
			for _, far := range fars {
				want, who, up := copied(r), 0, -1
				if l := robbable(r, p, far); len(l) > 0 {
					q := l[0]
					want.Rings[q] = ring.Ring{Next: 10*q + 10, L: []int{10*q + 12}}
					who, up = 10*q+11, apart(w[p], w[q])
				}
				if s, g, u := steals(t, r, p, far); g != who || u != up || !same(s, want) {
					t.Errorf("%s: %d, %d at most: %v, %d, %d", name, p, far, s, g, u)
				}
			}
		}
	}
}

// P17.2: a victim, how far it may be, is come to ahead of all rows, and a nearer
// one ahead of one that has more.
func TestVictimsFirst(t *testing.T) {
	r := empty(tree("m(n(c(pp)c(p))n(c(p)))"), 4)
	r.Shared[1] = []int{1, 2}
	for _, c := range []struct {
		victim int
		x      ring.Ring
		g, far int
	}{{3, ring.Ring{Next: 20, L: []int{21, 22, 23, 24}}, 21, 3}, {2, ring.Ring{L: []int{31, 32}}, 31, 2}, {1, ring.Ring{Next: 40}, 40, 1}} {
		r.Rings[c.victim] = c.x
		for _, far := range []int{c.far, 3, 4} {
			if _, g, up := steals(t, r, 0, far); g != c.g || up != c.far {
				t.Errorf("with %v, %d at most: %d, %d", r.Rings, far, g, up)
			}
		}
	}
}

// P17.2: without a victim the rows of the nodes behind the thief's own, going
// round, and just with a far of 3, or above.
func TestRows(t *testing.T) {
	x := tree("m(n(c(p))n(c(p)c(p))n(c(pp))n(c(p)))")
	home := []int{0, 1, 1, 2, 2, 3}
	for some := range 1 << 4 {
		r := empty(x, 2)
		for n := range 4 {
			if some>>n&1 == 1 {
				r.Shared[n] = []int{10*n + 3, 10*n + 1, 10*n + 2}
			}
		}
		for p, own := range home {
			if some>>own&1 == 1 {
				continue
			}
			want, who, up := copied(r), 0, -1
			for _, n := range [][]int{{1, 2, 3}, {2, 3, 0}, {3, 0, 1}, {0, 1, 2}}[own] {
				if who == 0 && some>>n&1 == 1 {
					want.Shared[n], who, up = []int{10*n + 1, 10*n + 2}, 10*n+3, 3
				}
			}
			for _, far := range fars {
				s, g, u := steals(t, r, p, far)
				if far < 3 && (g != 0 || u != -1 || !same(s, r)) {
					t.Errorf("%d of %v, %d at most: %v, %d, %d", p, r.Shared, far, s, g, u)
				}
				if far >= 3 && (g != who || u != up || !same(s, want)) {
					t.Errorf("%d of %v, %d at most: %v, %d, %d", p, r.Shared, far, s, g, u)
				}
			}
		}
	}
}

// P17.2: a row is taken from though nobody of its node is plugged, and the last
// one in it leaves it empty.
func TestRowsUnplugged(t *testing.T) {
	r := empty(tree("m(n(c(p))n(c(p))n(c(pp)))"), 2)
	r.On = bits.Of(3)
	r.Shared = [][]int{nil, {5}, {}}
	s, g, far := steals(t, r, 3, 3)
	if g != 5 || far != 3 || len(runs.All(s)) != 0 {
		t.Errorf("%v, %d, %d", s, g, far)
	}
	r.Shared[0] = []int{7, 6}
	s, g, far = steals(t, r, 3, 3)
	if g != 7 || far != 3 || !slices.Equal(s.Shared[0], []int{6}) || !slices.Equal(s.Shared[1], []int{5}) {
		t.Errorf("%v, %d, %d", s, g, far)
	}
}

// P17.2: who alone is plugged has rows alone, and of one node nobody.
func TestAlone(t *testing.T) {
	for name, x := range trees() {
		for p := range empty(x, 2).Rings {
			r := empty(x, 2)
			r.On = bits.Of(p)
			if s, g, far := steals(t, r, p, 3); g != 0 || far != -1 || !same(s, r) {
				t.Errorf("%s: %d alone: %v, %d, %d", name, p, s, g, far)
			}
			for n := range r.Shared {
				r.Shared[n] = []int{n + 1}
			}
			home, n := node(x, p), len(r.Shared)
			r.Shared[home] = nil
			for step := 1; step < n; step++ {
				s, g, far := steals(t, r, p, 3)
				if g != (home+step)%n+1 || far != 3 {
					t.Errorf("%s: %d alone, the row of %d: %d, %d", name, p, step, g, far)
				}
				r = s
			}
			if _, g, far := steals(t, r, p, 3); g != 0 || far != -1 {
				t.Errorf("%s: %d alone, at the end: %d, %d", name, p, g, far)
			}
		}
	}
}

// P17.2, P17.3: each thief, each victim alone, of each tree.
func TestEachRing(t *testing.T) {
	for name, x := range trees() {
		r, w := empty(x, 3), ways(x)
		for q := range w {
			r.Rings[q] = ring.Ring{Next: 4, L: []int{3, 2, 1}}
			for p := range w {
				for far := range 4 {
					who, up := 0, -1
					if d := apart(w[p], w[q]); 0 < d && d <= far {
						who, up = 3, d
					}
					if _, g, u := steals(t, r, p, far); g != who || u != up {
						t.Errorf("%s: %d of the ring of %d, %d at most: %d, %d", name, p, q, far, g, u)
					}
				}
			}
			r.Rings[q] = ring.Ring{}
		}
	}
}

// P17.2, P17.3: each thief, each row alone, of each tree.
func TestEachRow(t *testing.T) {
	for name, x := range trees() {
		r := empty(x, 3)
		for n := range r.Shared {
			r.Shared[n] = []int{3, 2, 1}
			for p := range r.Rings {
				for far := range 5 {
					who, up := 0, -1
					if n != node(x, p) && far >= 3 {
						who, up = 3, 3
					}
					if _, g, u := steals(t, r, p, far); g != who || u != up {
						t.Errorf("%s: %d of the row of %d, %d at most: %d, %d", name, p, n, far, g, u)
					}
				}
			}
			r.Shared[n] = nil
		}
	}
}

// emptied steals for one processor with far 3 again and again, and tells who is
// told, till it is nobody. Who stands in p's own ring, where what is stolen
// comes, or in its node's row, is found ahead of each step, if finds says so.
func emptied(t *testing.T, r runs.Runs, p int, finds bool) ([]int, runs.Runs) {
	t.Helper()
	var told []int
	for range 400 {
		var g, place int
		if finds {
			r, g, place = find.Local(r, p, 1)
		}
		if place == find.Nobody {
			var far int
			if r, g, far = steals(t, r, p, 3); far < 0 {
				return told, r
			}
		}
		told = append(told, g)
	}
	t.Fatalf("of %d is told without an end", p)
	return nil, r
}

// P17.3: stolen again and again, each one is told once, and nobody stands
// anywhere then: of rings of no more than two others, of which just one is
// stolen at once, with nobody found between.
func TestAgain(t *testing.T) {
	for name, x := range trees() {
		for p := 0; p < len(crowd(x).Rings); p += 3 {
			r := robbed(crowd(x), p)
			told, left := emptied(t, r, p, false)
			if !slices.Equal(sorted(told), sorted(runs.All(r))) || len(runs.All(left)) != 0 {
				t.Errorf("%s: to %d are told %v, and %v is left", name, p, told, left)
			}
		}
	}
}

// P17.3: likewise of rings of all lengths, where those who come to the thief's
// own ring are found there.
func TestAgainFound(t *testing.T) {
	for name, x := range trees() {
		for size := 2; size <= 16; size += 7 {
			r := empty(x, size)
			for p := range r.Rings {
				r.Rings[p] = ring.Ring{Next: 100*p + 99, L: row(100*p+1, 100*p+p%(size+1))}
			}
			for n := range r.Shared {
				r.Shared[n] = row(10000*n+10000, 10000*n+10000+n)
			}
			for p := size % 2; p < len(r.Rings); p += 9 {
				told, left := emptied(t, r, p, true)
				if !slices.Equal(sorted(told), sorted(runs.All(r))) || len(runs.All(left)) != 0 {
					t.Errorf("%s: to %d are told %v, and %v is left", name, p, told, left)
				}
			}
		}
	}
}

// P17.3: the turn in which one is told all: rings by how far they are, and then
// rows, from the node behind the thief's on.
func TestInTurn(t *testing.T) {
	r := robbed(crowd(tree("m(n(c(p))n(c(pp)c(p))n(c(p)))")), 1)
	want := []int{
		31, 32, 30, // of its core
		41, 42, 40, // of its node
		51, 52, 50, // beyond
		11, 12, 10, // and going round
		3000, 3001, 3002,
		1000, 1001, 1002,
	}
	if told, _ := emptied(t, r, 1, false); !slices.Equal(told, want) {
		t.Errorf("told are %v, not %v", told, want)
	}
}

// each gives Runs of three processors of two nodes of all kinds: rings, rows,
// and who is plugged.
func each(give func(r runs.Runs)) {
	x := tree("m(n(c(pp))n(c(p)))")
	var rings []ring.Ring
	for _, next := range []int{0, 1, 9, -1} {
		for _, l := range [][]int{nil, {2}, {3, 4}, {1, 1}, {5, 6, 7}} {
			rings = append(rings, ring.Ring{Next: next, L: l})
		}
	}
	for _, a := range rings {
		for _, b := range rings {
			for _, c := range []ring.Ring{{}, {Next: 20}, {L: []int{21, 22}}} {
				for _, rows := range [][][]int{{nil, nil}, {{10}, nil}, {nil, {11, 12}}, {{13, 14}, {15, 16}}, {nil, {-1}}} {
					for on := range bits.Set(9) {
						give(runs.Runs{Tree: x, Size: 2, Rings: []ring.Ring{a, b, c}, Shared: rows, On: on})
					}
				}
			}
		}
	}
}

// P17.1, P17.2, P17.3, P1: whatever stands there, whether it may or not.
func TestAnything(t *testing.T) {
	fair, foul, thefts := 0, 0, 0
	each(func(r runs.Runs) {
		if !runs.May(r) {
			foul++
			// All of them tell nobody: some are enough.
			if foul%20 == 0 {
				steals(t, r, foul%3, 3)
			}
			return
		}
		fair++
		for p := -1; p <= 3; p++ {
			for far := range 4 {
				if _, _, up := steals(t, r, p, far); up > 0 {
					thefts++
				}
			}
		}
	})
	if fair < 100 || foul < 100 || thefts < 100 {
		t.Errorf("%d of them may be, %d may not, and %d are stolen", fair, foul, thefts)
	}
}

// P17.3, P4: with far 3 a thief is told somebody, just if somebody stands
// anywhere; whoever comes and goes, nobody is lost, and nobody is told twice.
func TestSomebody(t *testing.T) {
	for seed := range 40 {
		m := mixer(seed)
		x := [][]api.Vertex{tree("m(n(c(pp)c(p)))"), tree("m(n(c(pp)c(p))n(c(pp)))"), mixed(), tree("m(n(c(p)c(p))n(c(pp))n(c(p))n(c(p)))")}[seed%4]
		r := empty(x, 2+m.below(15))
		for p := range r.Rings {
			if p > 0 && m.below(4) == 0 {
				r.On = r.On.Without(p)
			}
		}
		in := map[int]bool{}
		for g := 1; g <= 150; g++ {
			if m.below(3) == 0 {
				r, _ = runs.Push(r, m.below(len(r.Shared)), g)
				in[g] = true
			} else if s, e := runs.Put(r, m.below(len(r.Rings)), g); e == api.OK {
				r, in[g] = s, true
			}
			// Now and then somebody takes one, of its own or of others, and more.
			for p := m.below(len(r.Rings)); m.below(3) > 0; {
				s, out, _ := find.Local(r, p, m.below(100))
				if out == 0 {
					var far int
					s, out, far = steals(t, r, p, 3)
					if found := r.On.Has(p) && len(in) > 0; (far > 0) != found {
						t.Fatalf("to %d of %v is told %d", p, r, out)
					}
				}
				if out != 0 && !in[out] {
					t.Fatalf("%d is told, and stood nowhere", out)
				}
				delete(in, out)
				if r = s; len(runs.All(r)) != len(in) {
					t.Fatalf("of %v stand there %v", in, runs.All(r))
				}
			}
		}
	}
}
