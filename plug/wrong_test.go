package plug_test

import (
	"math"
	"slices"
	"testing"

	"catafalque/api"
	"catafalque/bits"
	"catafalque/ring"
	"catafalque/runs"
)

// some are Runs in which some stand next, some in rings, some in rows: the
// processors 0, 1 and 2 are of the node 0, and 3 and 4 of the node 1; 2 isn't
// plugged.
func some() runs.Runs {
	return runs.Runs{
		Tree:   tree("m(n(c(pp)c(p))n(c(pp)))"),
		Size:   3,
		Rings:  []ring.Ring{{Next: 4, L: []int{9, 2}}, {L: []int{7, 13}}, {}, {Next: 5}, {Next: 11, L: []int{1, 12, 3}}},
		Shared: [][]int{{8, 6}, {10, 20, 15}},
		On:     bits.Of(0, 1, 3, 4),
	}
}

// with are some Runs turned by a change.
func with(change func(r *runs.Runs)) runs.Runs {
	r := some()
	change(&r)
	return r
}

// mayNots are Runs that may not be, most of them for one thing alone.
func mayNots() map[string]runs.Runs {
	return map[string]runs.Runs{
		"nothing at all":                  {},
		"no tree":                         with(func(r *runs.Runs) { r.Tree = nil }),
		"a core without any":              with(func(r *runs.Runs) { r.Tree = r.Tree[:len(r.Tree)-2] }),
		"a vertex whose Parent is behind": with(func(r *runs.Runs) { r.Tree[3].Parent = 7 }),
		"a vertex of no Level":            with(func(r *runs.Runs) { r.Tree[4].Level = 4 }),
		"a size of 1":                     with(func(r *runs.Runs) { r.Size, r.Rings = 1, make([]ring.Ring, 5) }),
		"a size of 0":                     with(func(r *runs.Runs) { r.Size, r.Rings = 0, make([]ring.Ring, 5) }),
		"a size below 0":                  with(func(r *runs.Runs) { r.Size, r.Rings = -3, make([]ring.Ring, 5) }),
		"a size of 17":                    with(func(r *runs.Runs) { r.Size = 17 }),
		"the least size that an int has":  with(func(r *runs.Runs) { r.Size = math.MinInt }),
		"the greatest":                    with(func(r *runs.Runs) { r.Size = math.MaxInt }),
		"a ring too few":                  with(func(r *runs.Runs) { r.Rings, r.On = r.Rings[:4], bits.Of(0, 1, 3) }),
		"a ring too few for On":           with(func(r *runs.Runs) { r.Rings = r.Rings[:4] }),
		"a ring too many":                 with(func(r *runs.Runs) { r.Rings = append(r.Rings, ring.Ring{}) }),
		"a ring too many, plugged":        with(func(r *runs.Runs) { r.Rings, r.On = append(r.Rings, ring.Ring{Next: 40}), r.On.With(5) }),
		"no rings":                        with(func(r *runs.Runs) { r.Rings = nil }),
		"a row too few":                   with(func(r *runs.Runs) { r.Shared = r.Shared[:1] }),
		"a row too many":                  with(func(r *runs.Runs) { r.Shared = append(r.Shared, []int{40}) }),
		"no rows":                         with(func(r *runs.Runs) { r.Shared = nil }),
		"nobody is plugged":               with(func(r *runs.Runs) { r.On, r.Rings = 0, make([]ring.Ring, 5) }),
		"plugged is one behind the last":  with(func(r *runs.Runs) { r.On = r.On.With(5) }),
		"plugged is 63":                   with(func(r *runs.Runs) { r.On = r.On.With(63) }),
		"plugged are all numbers":         with(func(r *runs.Runs) { r.On = math.MaxUint64 }),
		"next where nobody is plugged":    with(func(r *runs.Runs) { r.Rings[2].Next = 40 }),
		"others where nobody is plugged":  with(func(r *runs.Runs) { r.Rings[2].L = []int{40} }),
		"a plugged one taken away":        with(func(r *runs.Runs) { r.On = r.On.Without(1) }),
		"a ring one longer than the size": with(func(r *runs.Runs) { r.Rings[1].L = []int{7, 13, 40, 41} }),
		"a ring longer than the size is":  with(func(r *runs.Runs) { r.Size = 2 }),
		"next, and in its ring":           with(func(r *runs.Runs) { r.Rings[4].L[1] = 11 }),
		"twice in one ring":               with(func(r *runs.Runs) { r.Rings[1].L[1] = 7 }),
		"next in two rings":               with(func(r *runs.Runs) { r.Rings[3].Next = 11 }),
		"in two rings":                    with(func(r *runs.Runs) { r.Rings[1].L[0] = 12 }),
		"twice in one row":                with(func(r *runs.Runs) { r.Shared[1][2] = 10 }),
		"in two rows":                     with(func(r *runs.Runs) { r.Shared[0][0] = 20 }),
		"in a ring, and in a row":         with(func(r *runs.Runs) { r.Shared[1][0] = 13 }),
		"next, and in a row":              with(func(r *runs.Runs) { r.Shared[1][1] = 5 }),
		"a 0 in a ring":                   with(func(r *runs.Runs) { r.Rings[4].L[1] = 0 }),
		"a 0 in a row":                    with(func(r *runs.Runs) { r.Shared[1][2] = 0 }),
		"next below 0":                    with(func(r *runs.Runs) { r.Rings[3].Next = -1 }),
		"one below 0 in a ring":           with(func(r *runs.Runs) { r.Rings[1].L[0] = -7 }),
		"one below 0 in a row":            with(func(r *runs.Runs) { r.Shared[1][1] = -6 }),
		"the least int next":              with(func(r *runs.Runs) { r.Rings[3].Next = math.MinInt }),
	}
}

// noPlug asks Plug for an error, and the Runs as they were.
func noPlug(t *testing.T, name string, r runs.Runs, p int, want api.Errno) {
	t.Helper()
	keep := copied(r)
	if s, e := plugs(t, r, p); e != want || !same(s, keep) {
		t.Errorf("%s: Plug of %d: %v, %d", name, p, s, e)
	}
}

// noUnplug asks Unplug for an error, and the Runs as they were.
func noUnplug(t *testing.T, name string, r runs.Runs, p, cur int, want api.Errno) {
	t.Helper()
	keep := copied(r)
	if s, e := unplugs(t, r, p, cur); e != want || !same(s, keep) {
		t.Errorf("%s: Unplug of %d, running %d: %v, %d", name, p, cur, s, e)
	}
}

// P20.1, P20.2: of Runs that may not be ErrArg is told, whatever is asked, also
// of what would be another error; of those that are but a change away from them
// other things are told.
func TestMayNot(t *testing.T) {
	if _, e := plugs(t, some(), 2); e != api.OK {
		t.Errorf("of those that may be: %d", e)
	}
	if _, e := unplugs(t, some(), 1, 30); e != api.OK {
		t.Errorf("of those that may be: %d", e)
	}
	for name, r := range mayNots() {
		if runs.May(r) {
			t.Fatalf("%s: they may be", name)
		}
		for _, p := range append(row(0, 6), noProcs...) {
			noPlug(t, name, r, p, api.ErrArg)
			for _, cur := range []int{0, 1, 8, 9, 30, math.MaxInt, -1, math.MinInt} {
				noUnplug(t, name, r, p, cur, api.ErrArg)
			}
		}
	}
}

// P20.1, P20.2: of a p that is no processor ErrArg is told, also with a cur that
// stands there, or with one alone that is plugged.
func TestNoProcessor(t *testing.T) {
	for name, x := range trees() {
		r := crowd(x)
		n := len(r.Rings)
		for _, p := range append([]int{-n, n, n + 1, 2 * n, 64 + n, -64 + n}, noProcs...) {
			if 0 <= p && p < n {
				continue
			}
			for _, r := range []runs.Runs{r, alone(r, n-1), empty(x, 16)} {
				noPlug(t, name, r, p, api.ErrArg)
				for _, cur := range []int{0, 1, 10, 1000, math.MaxInt, -1} {
					noUnplug(t, name, r, p, cur, api.ErrArg)
				}
			}
		}
	}
}

// P20.2: of a cur below 0 ErrArg is told, of a p that is plugged, of one that
// isn't, and of the only one that is.
func TestNoCur(t *testing.T) {
	for name, x := range trees() {
		n := len(crowd(x).Rings)
		for p := range n {
			for _, cur := range noCurs {
				noUnplug(t, name, crowd(x), p, cur, api.ErrArg)
				noUnplug(t, name+", alone", alone(crowd(x), p), p, cur, api.ErrArg)
				if n > 1 {
					noUnplug(t, name+", not plugged", without(crowd(x), p), p, cur, api.ErrArg)
				}
			}
		}
	}
}

// P20.2: one that isn't plugged is ErrNone, whoever runs, also one who stands
// there; that no more than one other one is plugged is no ErrLast.
func TestNotPlugged(t *testing.T) {
	for name, x := range trees() {
		n := len(crowd(x).Rings)
		for p := range n {
			if n == 1 {
				continue
			}
			for _, r := range []runs.Runs{without(crowd(x), p), without(empty(x, 16), p), alone(crowd(x), (p+1)%n)} {
				for _, cur := range append(runs.All(r), 0, 1, math.MaxInt) {
					noUnplug(t, name, r, p, cur, api.ErrNone)
				}
			}
		}
	}
}

// P20.2: the only one that is plugged is ErrLast, whoever runs, also one who
// stands there.
func TestLast(t *testing.T) {
	for name, x := range trees() {
		for p := range crowd(x).Rings {
			for _, r := range []runs.Runs{alone(crowd(x), p), alone(empty(x, 2), p)} {
				for _, cur := range append(runs.All(r), 0, 1, math.MaxInt) {
					noUnplug(t, name, r, p, cur, api.ErrLast)
				}
			}
		}
	}
}

// P20.2: a cur that stands anywhere is ErrThere: in a row, in p's own ring, in
// another one, as next or behind, at each processor; one that stands nowhere is
// none, and neither is a cur of 0.
func TestThere(t *testing.T) {
	for name, x := range trees() {
		r := crowd(x)
		if len(r.Rings) == 1 {
			continue
		}
		all := runs.All(r)
		for p := range r.Rings {
			for _, cur := range all {
				noUnplug(t, name, r, p, cur, api.ErrThere)
			}
			for _, cur := range []int{0, 1, 9, 13, 999, 1003, math.MaxInt} {
				if slices.Contains(all, cur) {
					continue
				}
				if _, e := unplugs(t, r, p, cur); e != api.OK {
					t.Errorf("%s: Unplug of %d, running %d: %d", name, p, cur, e)
				}
			}
		}
	}
	r := some()
	for _, p := range []int{0, 1, 3, 4} {
		for _, cur := range []int{4, 9, 2, 7, 13, 5, 11, 1, 12, 3, 8, 6, 10, 20, 15} {
			noUnplug(t, "some", r, p, cur, api.ErrThere)
		}
	}
}

// P20.1, P20.2, P20.3, P1: whatever stands there, whether it may or not.
func TestAnything(t *testing.T) {
	x := tree("m(n(c(pp))n(c(p)))")
	var rings []ring.Ring
	for _, next := range []int{0, 1, 9, -1} {
		for _, l := range [][]int{nil, {2}, {3, 4}, {1, 1}, {5, 6, 7}} {
			rings = append(rings, ring.Ring{Next: next, L: l})
		}
	}
	fair, foul := 0, 0
	for _, a := range rings {
		for _, b := range rings {
			for _, rows := range [][][]int{{nil, nil}, {{10}, nil}, {{13, 14}, {15, 16}}, {nil, {-1}}, {nil}} {
				for on := range bits.Set(9) {
					r := runs.Runs{Tree: x, Size: 2, Rings: []ring.Ring{a, b, {}}, Shared: rows, On: on}
					if !runs.May(r) {
						// All of them tell the same: some are enough.
						if foul++; foul%10 == 0 {
							noPlug(t, "foul", r, foul%3, api.ErrArg)
							noUnplug(t, "foul", r, foul%3, foul%2*30, api.ErrArg)
						}
						continue
					}
					fair++
					for p := -1; p <= 3; p++ {
						plugs(t, r, p)
						for _, cur := range []int{0, 1, 3, 13, 30, -1} {
							unplugs(t, r, p, cur)
						}
					}
				}
			}
		}
	}
	if fair < 100 || foul < 100 {
		t.Errorf("%d of them may be, %d may not", fair, foul)
	}
}
