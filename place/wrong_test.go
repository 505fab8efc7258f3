package place_test

import (
	"math"
	"testing"

	"catafalque/api"
	"catafalque/bits"
	"catafalque/ring"
	"catafalque/runs"
)

// some are Runs in which some stand next, some in rings, some in rows: the
// processors 0, 1 and 2 are of the node 0, and 3 and 4 of the node 1; 2 isn't
// plugged.
func some() runs.Runs {
	return runs.Runs{
		Tree:   tree("m(n(c(pp)c(p))n(c(pp)))"),
		Size:   3,
		Rings:  []ring.Ring{{Next: 4, L: []int{9, 2}}, {L: []int{7, 13}}, {}, {Next: 5}, {Next: 11, L: []int{1, 12, 3}}},
		Shared: [][]int{{8, 6}, {10, 20, 15}},
		On:     bits.Of(0, 1, 3, 4),
	}
}

// with are some Runs turned by a change.
func with(change func(r *runs.Runs)) runs.Runs {
	r := some()
	change(&r)
	return r
}

// mayNots are Runs that may not be, most of them for one thing alone.
func mayNots() map[string]runs.Runs {
	return map[string]runs.Runs{
		"nothing at all":                  {},
		"no tree":                         with(func(r *runs.Runs) { r.Tree = nil }),
		"a core without any":              with(func(r *runs.Runs) { r.Tree = r.Tree[:len(r.Tree)-2] }),
		"a vertex whose Parent is behind": with(func(r *runs.Runs) { r.Tree[3].Parent = 7 }),
		"a vertex of no Level":            with(func(r *runs.Runs) { r.Tree[4].Level = 4 }),
		"a size of 1":                     with(func(r *runs.Runs) { r.Size, r.Rings = 1, make([]ring.Ring, 5) }),
		"a size of 0":                     with(func(r *runs.Runs) { r.Size, r.Rings = 0, make([]ring.Ring, 5) }),
		"a size below 0":                  with(func(r *runs.Runs) { r.Size, r.Rings = -3, make([]ring.Ring, 5) }),
		"a size of 17":                    with(func(r *runs.Runs) { r.Size = 17 }),
		"the least size that an int has":  with(func(r *runs.Runs) { r.Size = math.MinInt }),
		"the greatest":                    with(func(r *runs.Runs) { r.Size = math.MaxInt }),
		"a ring too few":                  with(func(r *runs.Runs) { r.Rings, r.On = r.Rings[:4], bits.Of(0, 1, 3) }),
		"a ring too few for On":           with(func(r *runs.Runs) { r.Rings = r.Rings[:4] }),
		"a ring too many":                 with(func(r *runs.Runs) { r.Rings = append(r.Rings, ring.Ring{}) }),
		"a ring too many, plugged":        with(func(r *runs.Runs) { r.Rings, r.On = append(r.Rings, ring.Ring{Next: 40}), r.On.With(5) }),
		"no rings":                        with(func(r *runs.Runs) { r.Rings = nil }),
		"a row too few":                   with(func(r *runs.Runs) { r.Shared = r.Shared[:1] }),
		"a row too many":                  with(func(r *runs.Runs) { r.Shared = append(r.Shared, []int{40}) }),
		"no rows":                         with(func(r *runs.Runs) { r.Shared = nil }),
		"nobody is plugged":               with(func(r *runs.Runs) { r.On, r.Rings = 0, make([]ring.Ring, 5) }),
		"plugged is one behind the last":  with(func(r *runs.Runs) { r.On = r.On.With(5) }),
		"plugged is 63":                   with(func(r *runs.Runs) { r.On = r.On.With(63) }),
		"plugged are all numbers":         with(func(r *runs.Runs) { r.On = all }),
		"next where nobody is plugged":    with(func(r *runs.Runs) { r.Rings[2].Next = 40 }),
		"others where nobody is plugged":  with(func(r *runs.Runs) { r.Rings[2].L = []int{40} }),
		"a plugged one taken away":        with(func(r *runs.Runs) { r.On = r.On.Without(1) }),
		"a ring one longer than the size": with(func(r *runs.Runs) { r.Rings[1].L = []int{7, 13, 40, 41} }),
		"a ring longer than the size is":  with(func(r *runs.Runs) { r.Size = 2 }),
		"next, and in its ring":           with(func(r *runs.Runs) { r.Rings[4].L[1] = 11 }),
		"twice in one ring":               with(func(r *runs.Runs) { r.Rings[1].L[1] = 7 }),
		"next in two rings":               with(func(r *runs.Runs) { r.Rings[3].Next = 11 }),
		"in two rings":                    with(func(r *runs.Runs) { r.Rings[1].L[0] = 12 }),
		"twice in one row":                with(func(r *runs.Runs) { r.Shared[1][2] = 10 }),
		"in two rows":                     with(func(r *runs.Runs) { r.Shared[0][0] = 20 }),
		"in a ring, and in a row":         with(func(r *runs.Runs) { r.Shared[1][0] = 13 }),
		"next, and in a row":              with(func(r *runs.Runs) { r.Shared[1][1] = 5 }),
		"a 0 in a ring":                   with(func(r *runs.Runs) { r.Rings[4].L[1] = 0 }),
		"a 0 in a row":                    with(func(r *runs.Runs) { r.Shared[1][2] = 0 }),
		"next below 0":                    with(func(r *runs.Runs) { r.Rings[3].Next = -1 }),
		"one below 0 in a ring":           with(func(r *runs.Runs) { r.Rings[1].L[0] = -7 }),
		"one below 0 in a row":            with(func(r *runs.Runs) { r.Shared[1][1] = -6 }),
		"the least int next":              with(func(r *runs.Runs) { r.Rings[3].Next = math.MinInt }),
	}
}

// refused asks Ready for ErrArg, and the Runs as they were.
func refused(t *testing.T, name string, r runs.Runs, p, g int) {
	t.Helper()
	keep := copied(r)
	if s, e := readies(t, r, p, g); e != api.ErrArg || !same(s, keep) {
		t.Errorf("%s: %d to %d: %v, %d", name, g, p, s, e)
	}
}

// P18.1, P18.2: of Runs that may not be Ready tells ErrArg, and Wake -1, whatever
// is asked; of those that are but a change away from them they tell more.
func TestMayNot(t *testing.T) {
	for p := range 5 {
		if _, e := readies(t, some(), p, 30); e != api.OK {
			t.Errorf("of those that may be: %d", e)
		}
		if q := wakes(t, some(), all, p); q < 0 {
			t.Errorf("of those that may be is woken %d", q)
		}
	}
	for name, r := range mayNots() {
		if runs.May(r) {
			t.Fatalf("%s: they may be", name)
		}
		for _, p := range append([]int{0, 1, 2, 3, 4, 5}, noProcs...) {
			// 8 and 9 stand in most of them: what the Runs are is asked first.
			for _, g := range []int{1, 8, 9, 30, math.MaxInt, 0, -1, math.MinInt} {
				refused(t, name, r, p, g)
			}
			for _, idle := range []bits.Set{0, bits.Of(p), bits.Of(0, 1, 3), r.On, all} {
				if q := wakes(t, r, idle, p); q != -1 {
					t.Errorf("%s: of %d, idle %v, is woken %d", name, p, idle.All(), q)
				}
			}
		}
	}
}

// P18.1, P18.2: of a p that is no processor Ready tells ErrArg, also of one who
// stands there, and Wake -1, also if that number is a member of idle.
func TestNoProcessor(t *testing.T) {
	for name, x := range trees() {
		r := crowd(x)
		n := len(r.Rings)
		for _, p := range append([]int{-n, n, n + 1, 2 * n, 64 + n, -64 + n}, noProcs...) {
			if 0 <= p && p < n {
				continue
			}
			for _, g := range []int{1, 10, 1000, math.MaxInt, 0, -1} {
				refused(t, name, r, p, g)
			}
			for _, idle := range []bits.Set{0, bits.Of(p), bits.Of(0), all} {
				if q := wakes(t, r, idle, p); q != -1 {
					t.Errorf("%s: of %d, idle %v, is woken %d", name, p, idle.All(), q)
				}
			}
		}
	}
}

// P18.1: of a g that isn't above 0 Ready tells ErrArg, of a p that is plugged,
// and of one that isn't.
func TestNoG(t *testing.T) {
	for name, x := range trees() {
		for p := range ways(x) {
			for _, g := range noGs {
				refused(t, name, crowd(x), p, g)
				refused(t, name+", empty", empty(x, 2), p, g)
				if len(ways(x)) > 1 {
					refused(t, name+", unplugged", unplugged(crowd(x), p), p, g)
				}
			}
		}
	}
}

// P18.1, P18.2, P18.3, P1: whatever stands there, whether it may or not.
func TestAnything(t *testing.T) {
	x := tree("m(n(c(pp))n(c(p)))")
	var rings []ring.Ring
	for _, next := range []int{0, 1, 9, -1} {
		for _, l := range [][]int{nil, {2}, {3, 4}, {1, 1}, {5, 6, 7}} {
			rings = append(rings, ring.Ring{Next: next, L: l})
		}
	}
	fair, foul := 0, 0
	for _, a := range rings {
		for _, b := range rings {
			for _, rows := range [][][]int{{nil, nil}, {{10}, nil}, {{13, 14}, {15, 16}}, {nil, {-1}}, {nil}} {
				for on := range bits.Set(9) {
					r := runs.Runs{Tree: x, Size: 2, Rings: []ring.Ring{a, b, {}}, Shared: rows, On: on}
					if !runs.May(r) {
						// All of them tell the same: some are enough.
						if foul++; foul%10 == 0 {
							refused(t, "foul", r, foul%3, 30)
							wakes(t, r, all, foul%3)
						}
						continue
					}
					fair++
					for p := -1; p <= 3; p++ {
						for _, g := range []int{1, 3, 13, 30, 0} {
							readies(t, r, p, g)
						}
						for idle := range bits.Set(9) {
							wakes(t, r, idle, p)
						}
					}
				}
			}
		}
	}
	if fair < 100 || foul < 100 {
		t.Errorf("%d of them may be, %d may not", fair, foul)
	}
}
