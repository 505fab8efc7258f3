package find_test

import (
	"slices"
	"testing"

	"catafalque/api"
	"catafalque/bits"
	"catafalque/find"
	"catafalque/ring"
	"catafalque/runs"
)

// The numbers that the places have.
func TestPlaces(t *testing.T) {
	if l := []int{find.Nobody, find.Next, find.Ring, find.Row}; !slices.Equal(l, []int{0, 1, 2, 3}) {
		t.Errorf("the places are %v", l)
	}
}

// The document's example.
func TestExample(t *testing.T) {
	r := runs.Runs{
		Tree:   tree([]int{1}),
		Size:   2,
		Rings:  []ring.Ring{{Next: 4, L: []int{2}}},
		Shared: [][]int{{1}},
		On:     1,
	}
	for _, c := range []struct {
		tick, g, place int
		x              ring.Ring
		row            []int
	}{
		{1, 4, find.Next, ring.Ring{L: []int{2}}, []int{1}},
		{61, 1, find.Row, ring.Ring{Next: 4, L: []int{2}}, nil},
	} {
		s, g, place := finds(t, r, 0, c.tick)
		want := copied(r)
		want.Rings[0], want.Shared[0] = c.x, c.row
		if g != c.g || place != c.place || !same(s, want) {
			t.Errorf("at the tick %d: %v, %d, %d", c.tick, s, g, place)
		}
	}
}

// P16.1: multiples of 61, below 0, too.
func TestTurn(t *testing.T) {
	for _, tick := range turns {
		if !find.Turn(tick) {
			t.Errorf("at %d it isn't a row's turn", tick)
		}
	}
	for _, tick := range others {
		if find.Turn(tick) {
			t.Errorf("at %d it is a row's turn", tick)
		}
	}
	want := -6100
	for tick := -6100; tick <= 6100; tick++ {
		if find.Turn(tick) != (tick == want) {
			t.Errorf("at %d, whether it is a row's turn: %t", tick, find.Turn(tick))
		}
		if tick == want {
			want += 61
		}
	}
}

// scene is who stands on a processor and in its node's row, who is told, and
// where, at a row's turn and else.
type scene struct {
	name          string
	x             ring.Ring
	row           []int
	g, place      int
	turnG, turnAt int
}

// scenes are all ways in which somebody stands there, or nobody.
func scenes() []scene {
	return []scene{
		{"all", ring.Ring{Next: 4, L: []int{2, 9}}, []int{1, 3}, 4, find.Next, 1, find.Row},
		{"no row", ring.Ring{Next: 4, L: []int{2, 9}}, nil, 4, find.Next, 4, find.Next},
		{"no others", ring.Ring{Next: 4}, []int{1, 3}, 4, find.Next, 1, find.Row},
		{"a next one alone", ring.Ring{Next: 4}, nil, 4, find.Next, 4, find.Next},
		{"no next one", ring.Ring{L: []int{2, 9}}, []int{1, 3}, 2, find.Ring, 1, find.Row},
		{"others alone", ring.Ring{L: []int{2, 9}}, nil, 2, find.Ring, 2, find.Ring},
		{"one other alone", ring.Ring{L: []int{9}}, []int{}, 9, find.Ring, 9, find.Ring},
		{"a row alone", ring.Ring{}, []int{3, 1}, 3, find.Row, 3, find.Row},
		{"a row of one alone", ring.Ring{L: []int{}}, []int{3}, 3, find.Row, 3, find.Row},
		{"a full ring, and a row of one", ring.Ring{Next: 7, L: []int{6, 5, 4}}, []int{8}, 7, find.Next, 8, find.Row},
		{"nobody", ring.Ring{}, nil, 0, find.Nobody, 0, find.Nobody},
		{"nobody in empty rows", ring.Ring{L: []int{}}, []int{}, 0, find.Nobody, 0, find.Nobody},
	}
}

// holds asks who is told of a scene on a processor, at a tick that is a row's
// turn, or isn't.
func (c scene) holds(t *testing.T, name string, r runs.Runs, p, tick int, turn bool) {
	t.Helper()
	wantG, wantPlace := c.g, c.place
	if turn {
		wantG, wantPlace = c.turnG, c.turnAt
	}
	if _, g, place := finds(t, r, p, tick); g != wantG || place != wantPlace {
		t.Errorf("%s, %s: %d at %d: %d from %d", name, c.name, p, tick, g, place)
	}
}

// laid are Runs of three others at most in which a scene stands on a processor.
func (c scene) laid(r runs.Runs, p int) runs.Runs {
	s := copied(r)
	s.Size = 3
	s.Rings[p], s.Shared[node(r.Tree, p)] = c.x, c.row
	return s
}

// empty are Runs of a tree in which nobody stands.
func empty(x []api.Vertex) runs.Runs {
	r, _ := runs.New(x, 3)
	return r
}

// P16.1, P16.2: who is told at all kinds of ticks.
func TestTicks(t *testing.T) {
	for _, c := range scenes() {
		for p := range 5 {
			r := c.laid(crowd(tree([]int{2, 1}, []int{2})), p)
			for _, tick := range turns {
				c.holds(t, "two nodes", r, p, tick, true)
			}
			for _, tick := range others {
				c.holds(t, "two nodes", r, p, tick, false)
			}
		}
	}
}

// P16.1, P16.2: who is told of each processor of each tree; elsewhere stands
// nobody, or somebody everywhere.
func TestLocal(t *testing.T) {
	for name, x := range trees() {
		for _, c := range scenes() {
			for _, r := range []runs.Runs{crowd(x), empty(x)} {
				for p := range r.Rings {
					s := c.laid(r, p)
					c.holds(t, name, s, p, 1, false)
					c.holds(t, name, s, p, 61, true)
				}
			}
		}
	}
}

// P16.1: one is told who stands there also where no other one is plugged.
func TestAlone(t *testing.T) {
	for name, x := range trees() {
		for _, c := range scenes() {
			for p := range crowd(x).Rings {
				r := crowd(x)
				clear(r.Rings)
				r.On = bits.Of(p)
				s := c.laid(r, p)
				c.holds(t, name, s, p, 60, false)
				c.holds(t, name, s, p, 0, true)
			}
		}
	}
}

// P16.1: others' rings, and the rows of others' nodes, are never looked at.
func TestOthers(t *testing.T) {
	for name, x := range trees() {
		for p := range crowd(x).Rings {
			r := crowd(x)
			r.Rings[p], r.Shared[node(x, p)] = ring.Ring{}, nil
			for _, tick := range slices.Concat(turns, others) {
				if s, g, place := find.Local(r, p, tick); g != 0 || place != find.Nobody || !same(s, r) {
					t.Errorf("%s, %d at %d: %v, %d, %d", name, p, tick, s, g, place)
				}
			}
		}
	}
}

// told takes out whom Local tells of a processor at one tick, till there is
// nobody.
func told(t *testing.T, r runs.Runs, p, tick int) (runs.Runs, []int, []int) {
	t.Helper()
	var gs, places []int
	for range 100 {
		s, g, place := finds(t, r, p, tick)
		if place == find.Nobody {
			return s, gs, places
		}
		r, gs, places = s, append(gs, g), append(places, place)
	}
	t.Fatalf("of %d is told without an end", p)
	return r, gs, places
}

// P16.2: asked again and again, all of the ring and of the row are told, each
// once, in turn; nobody else is.
func TestAgain(t *testing.T) {
	for name, x := range trees() {
		for p := range crowd(x).Rings {
			r, n := crowd(x), node(x, p)
			own := []int{10*p + 10, 10*p + 11, 10*p + 12}
			row := []int{1000*n + 1000, 1000*n + 1001, 1000*n + 1002}
			want := copied(r)
			want.Rings[p], want.Shared[n] = ring.Ring{}, nil
			for _, c := range []struct {
				tick       int
				gs, places []int
			}{
				{1, slices.Concat(own, row), []int{find.Next, find.Ring, find.Ring, find.Row, find.Row, find.Row}},
				{61, slices.Concat(row, own), []int{find.Row, find.Row, find.Row, find.Next, find.Ring, find.Ring}},
			} {
				s, gs, places := told(t, r, p, c.tick)
				if !slices.Equal(gs, c.gs) || !slices.Equal(places, c.places) || !same(s, want) {
					t.Errorf("%s, %d at %d: %v from %v, and %v is left", name, p, c.tick, gs, places, s)
				}
			}
		}
	}
}

// P16.2: two of one node take of one row, and of two nodes of two.
func TestShared(t *testing.T) {
	r := runs.Runs{
		Tree:   tree([]int{1, 1}, []int{1}),
		Size:   2,
		Rings:  make([]ring.Ring, 3),
		Shared: [][]int{{1, 2, 3}, {4, 5}},
		On:     7,
	}
	for _, c := range []struct{ p, tick, g int }{{1, 1, 1}, {2, 61, 4}, {0, 61, 2}, {1, 0, 3}, {0, 1, 0}, {1, 61, 0}, {2, 1, 5}, {2, 1, 0}} {
		s, g, _ := finds(t, r, c.p, c.tick)
		if g != c.g {
			t.Errorf("%d at %d is told %d, not %d", c.p, c.tick, g, c.g)
		}
		r = s
	}
	if l := runs.All(r); len(l) != 0 {
		t.Errorf("there stand %v", l)
	}
}

// P16.1: the row of the node that lies above the processor, also where they
// don't stand in one turn.
func TestMixed(t *testing.T) {
	r, _ := runs.New(mixed(), 2)
	r.Shared = [][]int{{8}, {9}}
	for p, want := range []int{9, 8, 8, 9, 9, 8} {
		for _, tick := range []int{1, 61} {
			if _, g, place := finds(t, r, p, tick); g != want || place != find.Row {
				t.Errorf("%d at %d: %d from %d, not %d", p, tick, g, place, want)
			}
		}
	}
}

// P16.1, P5: who is first in a row is told once within 61 ticks, wherever they
// begin, though there is always somebody next.
func TestNobodyStarves(t *testing.T) {
	for first := -70; first <= 70; first++ {
		r := empty(tree([]int{2}))
		r.Rings[0].Next = 1
		r.Shared[0] = []int{100, 101}
		at := 0
		for k := range 61 {
			s, g, place := finds(t, r, 0, first+k)
			if place == find.Row && g == 100 {
				at++
				r = s
			} else if place != find.Next || g != 1 {
				t.Errorf("at %d is told %d from %d", first+k, g, place)
			}
		}
		if at != 1 {
			t.Errorf("from %d on the row's first one is told %d times", first, at)
		}
	}
}

// each gives Runs of two processors of one node of all kinds: rings, a row, and
// who is plugged.
func each(give func(r runs.Runs)) {
	var rings []ring.Ring
	for _, next := range []int{0, 1, 2, 5, -1} {
		for _, l := range [][]int{nil, {1}, {6}, {2, 3}, {1, 1}, {0}, {4, 5, 6}} {
			rings = append(rings, ring.Ring{Next: next, L: l})
		}
	}
	for _, a := range rings {
		for _, b := range rings {
			for _, row := range [][]int{nil, {1}, {4, 7}, {7, 7}, {-7}} {
				for on := range 5 {
					give(runs.Runs{Tree: tree([]int{2}), Size: 2, Rings: []ring.Ring{a, b}, Shared: [][]int{row}, On: bits.Set(on)})
				}
			}
		}
	}
}

// P16.1, P16.2, P1: whatever stands there, whether it may or not.
func TestAnything(t *testing.T) {
	fair, foul := 0, 0
	each(func(r runs.Runs) {
		if runs.May(r) {
			fair++
		} else {
			foul++
		}
		for p := -1; p <= 2; p++ {
			finds(t, r, p, 1)
			finds(t, r, p, 61)
		}
	})
	if fair < 100 || foul < 100 {
		t.Errorf("%d of them may be, and %d may not", fair, foul)
	}
}

// P16.2: whoever comes and goes, in a turn that looks like none, nobody is
// lost, and nobody is told twice.
func TestNothingLost(t *testing.T) {
	for seed := range 40 {
		m := mixer(seed)
		x := [][]api.Vertex{tree([]int{1}), tree([]int{2, 1}, []int{2}), mixed(), tree(rows(8, 2, 2)...)}[seed%4]
		r, e := runs.New(x, 2+m.below(15))
		if e != api.OK {
			t.Fatal(e)
		}
		for p := range r.Rings {
			if p > 0 && m.below(4) == 0 {
				r.On = r.On.Without(p)
			}
		}
		in := map[int]bool{}
		for g := 1; g <= 200; g++ {
			if m.below(3) == 0 {
				r, _ = runs.Push(r, m.below(len(r.Shared)), g)
				in[g] = true
			} else if s, e := runs.Put(r, m.below(len(r.Rings)), g); e == api.OK {
				r, in[g] = s, true
			}
			s, out, place := finds(t, r, m.below(len(r.Rings)+1), m.below(200)-100)
			if place != find.Nobody && !in[out] {
				t.Fatalf("%d is told, and stood nowhere", out)
			}
			delete(in, out)
			r = s
			if l := runs.All(r); len(l) != len(in) {
				t.Fatalf("of %v stand there %v", in, l)
			}
		}
	}
}
