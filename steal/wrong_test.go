package steal_test

import (
	"math"
	"slices"
	"testing"

	"catafalque/bits"
	"catafalque/ring"
	"catafalque/runs"
	"catafalque/steal"
)

// some are Runs in which the processor 0 is a thief: 0, 1 and 2 are of the node
// 0, in whose row nobody stands, and 3 and 4 of the node 1; 2 isn't plugged.
func some() runs.Runs {
	return runs.Runs{
		Tree:   tree("m(n(c(pp)c(p))n(c(pp)))"),
		Size:   3,
		Rings:  []ring.Ring{{}, {L: []int{7, 13}}, {}, {Next: 5}, {Next: 11, L: []int{1, 12, 3}}},
		Shared: [][]int{{}, {10, 20, 15}},
		On:     bits.Of(0, 1, 3, 4),
	}
}

// with are some Runs turned by a change.
func with(change func(r *runs.Runs)) runs.Runs {
	r := some()
	change(&r)
	return r
}

// mayNots are Runs that may not be, most of them for one thing alone.
func mayNots() map[string]runs.Runs {
	return map[string]runs.Runs{
		"nothing at all":                  {},
		"no tree":                         with(func(r *runs.Runs) { r.Tree = nil }),
		"a core without any":              with(func(r *runs.Runs) { r.Tree = r.Tree[:len(r.Tree)-2] }),
		"a vertex whose Parent is behind": with(func(r *runs.Runs) { r.Tree[3].Parent = 7 }),
		"a vertex of no Level":            with(func(r *runs.Runs) { r.Tree[4].Level = 4 }),
		"a size of 1":                     with(func(r *runs.Runs) { r.Size, r.Rings[1].L, r.Rings[4].L = 1, nil, nil }),
		"a size of 0":                     with(func(r *runs.Runs) { r.Size, r.Rings[1].L, r.Rings[4].L = 0, nil, nil }),
		"a size below 0":                  with(func(r *runs.Runs) { r.Size, r.Rings = -3, make([]ring.Ring, 5) }),
		"a size of 17":                    with(func(r *runs.Runs) { r.Size = 17 }),
		"the least size that an int has":  with(func(r *runs.Runs) { r.Size = math.MinInt }),
		"the greatest":                    with(func(r *runs.Runs) { r.Size = math.MaxInt }),
		"a ring too few":                  with(func(r *runs.Runs) { r.Rings, r.On = r.Rings[:4], bits.Of(0, 1, 3) }),
		"a ring too few for On":           with(func(r *runs.Runs) { r.Rings = r.Rings[:4] }),
		"a ring too many":                 with(func(r *runs.Runs) { r.Rings = append(r.Rings, ring.Ring{}) }),
		"a ring too many, plugged":        with(func(r *runs.Runs) { r.Rings, r.On = append(r.Rings, ring.Ring{Next: 30}), r.On.With(5) }),
		"no rings":                        with(func(r *runs.Runs) { r.Rings = nil }),
		"a row too few":                   with(func(r *runs.Runs) { r.Shared = r.Shared[:1] }),
		"a row too many":                  with(func(r *runs.Runs) { r.Shared = append(r.Shared, []int{30}) }),
		"no rows":                         with(func(r *runs.Runs) { r.Shared = nil }),
		"nobody is plugged":               with(func(r *runs.Runs) { r.On, r.Rings = 0, make([]ring.Ring, 5) }),
		"plugged is one behind the last":  with(func(r *runs.Runs) { r.On = r.On.With(5) }),
		"plugged is 63":                   with(func(r *runs.Runs) { r.On = r.On.With(63) }),
		"plugged are all numbers":         with(func(r *runs.Runs) { r.On = 1<<64 - 1 }),
		"next where nobody is plugged":    with(func(r *runs.Runs) { r.Rings[2].Next = 30 }),
		"others where nobody is plugged":  with(func(r *runs.Runs) { r.Rings[2].L = []int{30} }),
		"a plugged one taken away":        with(func(r *runs.Runs) { r.On = r.On.Without(1) }),
		"a ring one longer than the size": with(func(r *runs.Runs) { r.Rings[1].L = []int{7, 13, 30, 31} }),
		"a ring longer than the size is":  with(func(r *runs.Runs) { r.Size = 2 }),
		"next, and in its ring":           with(func(r *runs.Runs) { r.Rings[4].L[1] = 11 }),
		"twice in one ring":               with(func(r *runs.Runs) { r.Rings[1].L[1] = 7 }),
		"next in two rings":               with(func(r *runs.Runs) { r.Rings[3].Next = 11 }),
		"in two rings":                    with(func(r *runs.Runs) { r.Rings[1].L[0] = 12 }),
		"twice in one row":                with(func(r *runs.Runs) { r.Shared[1][2] = 10 }),
		"in two rows":                     with(func(r *runs.Runs) { r.Shared[0] = []int{20} }),
		"in a ring, and in a row":         with(func(r *runs.Runs) { r.Shared[1][0] = 13 }),
		"next, and in a row":              with(func(r *runs.Runs) { r.Shared[1][1] = 5 }),
		"a 0 in a ring":                   with(func(r *runs.Runs) { r.Rings[4].L[1] = 0 }),
		"a 0 in a row":                    with(func(r *runs.Runs) { r.Shared[1][2] = 0 }),
		"next below 0":                    with(func(r *runs.Runs) { r.Rings[3].Next = -1 }),
		"one below 0 in a ring":           with(func(r *runs.Runs) { r.Rings[1].L[0] = -7 }),
		"one below 0 in a row":            with(func(r *runs.Runs) { r.Shared[1][1] = -6 }),
		"the least int next":              with(func(r *runs.Runs) { r.Rings[3].Next = math.MinInt }),
	}
}

// nobody asks for nobody, whatever far is, and the Runs as they were.
func nobody(t *testing.T, name string, r runs.Runs, p int) {
	t.Helper()
	keep := copied(r)
	for _, far := range fars {
		s, g, up := steal.Steal(r, p, far)
		if g != 0 || up != -1 || !same(s, keep) || !same(r, keep) {
			t.Errorf("%s: to %d, %d at most, is told %d, at %d, with %v, of %v", name, p, far, g, up, s, keep)
		}
	}
}

// noVictims asks for none, whatever far is.
func noVictims(t *testing.T, name string, r runs.Runs, p int) {
	t.Helper()
	for _, far := range fars {
		if l := steal.Victims(r, p, far); len(l) != 0 {
			t.Errorf("%s: Victims of %d, %d at most, are %v", name, p, far, l)
		}
	}
}

// P17.1, P17.2: of Runs that may not be nothing is told, whatever is asked; of
// those that are but a change away from them the thief is told somebody.
func TestMayNot(t *testing.T) {
	if _, g, up := steals(t, some(), 0, 3); g != 7 || up != 1 {
		t.Errorf("of those that may be: %d, %d", g, up)
	}
	for name, r := range mayNots() {
		if runs.May(r) {
			t.Fatalf("%s: they may be", name)
		}
		for _, p := range []int{0, 1, 2, 3, 4, 5, 6, 63, 64, -1, math.MinInt, math.MaxInt} {
			nobody(t, name, r, p)
			noVictims(t, name, r, p)
		}
	}
}

// P17.1, P17.2: of a p that is no processor nothing is told.
func TestNoProcessor(t *testing.T) {
	for name, x := range trees() {
		r := crowd(x)
		n := len(r.Rings)
		for _, p := range []int{-1, -2, -n, -64, -1 << 32, math.MinInt, math.MinInt + 1, n, n + 1, 2 * n, 32, 63, 64, 65, 64 + n, 1 << 32, math.MaxInt - 1, math.MaxInt} {
			nobody(t, name, r, p)
			noVictims(t, name, r, p)
			nobody(t, name+", with rows alone", withoutRings(r), p)
		}
	}
}

// withoutRings are the same Runs, with nobody in the rings.
func withoutRings(r runs.Runs) runs.Runs {
	r.Rings = make([]ring.Ring, len(r.Rings))
	return r
}

// P17.1, P17.2: one that isn't plugged is told nobody, though it has Victims.
func TestNotPlugged(t *testing.T) {
	for name, x := range trees() {
		n := len(ways(x))
		for p := range n {
			if n == 1 {
				continue
			}
			r := robbed(crowd(x), p)
			r.On = r.On.Without(p)
			nobody(t, name, r, p)
			nobody(t, name+", with rows alone", withoutRings(r), p)
			if l := steal.Victims(r, p, 3); len(l) != n-1 {
				t.Errorf("%s: Victims of %d are %v", name, p, l)
			}
			steals(t, r, p, 3)
		}
	}
}

// P17.1, P17.2: one in whose ring, or in the row of whose node, somebody stands
// is told nobody, though it has Victims; so is one who was told somebody, as
// long as others came with that one.
func TestNoThief(t *testing.T) {
	for name, x := range trees() {
		for p := range ways(x) {
			n := node(x, p)
			for _, c := range []struct {
				x   ring.Ring
				row []int
			}{{ring.Ring{Next: 5}, nil}, {ring.Ring{L: []int{5}}, nil}, {ring.Ring{}, []int{5}}, {ring.Ring{}, []int{5, 6, 7}}, {ring.Ring{Next: 1, L: []int{2, 3}}, []int{4}}} {
				r := crowd(x)
				r.Rings[p], r.Shared[n] = c.x, c.row
				if !runs.May(r) {
					t.Fatalf("%s: %v may not be", name, r)
				}
				nobody(t, name, r, p)
				nobody(t, name+", with one ring alone", aloneAt(r, p), p)
				want := steal.Victims(robbed(r, p), p, 3)
				if l := steal.Victims(r, p, 3); !slices.Equal(l, want) || len(l) != len(r.Rings)-1 {
					t.Errorf("%s: Victims of %d are %v, not %v", name, p, l, want)
				}
			}
		}
	}
	r := empty(tree("m(n(c(pp)))"), 4)
	r.Rings[1].L = []int{1, 2, 3, 4}
	r, g, _ := steals(t, r, 0, 3)
	if g != 1 {
		t.Errorf("told is %d", g)
	}
	nobody(t, "once more", r, 0)
}

// aloneAt are the same Runs, with nobody in all rings but p's.
func aloneAt(r runs.Runs, p int) runs.Runs {
	s := withoutRings(r)
	s.Rings[p] = r.Rings[p]
	return s
}
