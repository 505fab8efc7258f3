package find_test

import (
	"math"
	"slices"
	"testing"

	"catafalque/bits"
	"catafalque/find"
	"catafalque/ring"
	"catafalque/runs"
)

// mayNots are Runs that may not be, most of them for one thing alone.
func mayNots() map[string]runs.Runs {
	return map[string]runs.Runs{
		"nothing at all":                  {},
		"no tree":                         with(func(r *runs.Runs) { r.Tree = nil }),
		"a core without any":              with(func(r *runs.Runs) { r.Tree = r.Tree[:len(r.Tree)-2] }),
		"a vertex whose Parent is behind": with(func(r *runs.Runs) { r.Tree[3].Parent = 7 }),
		"a vertex of no Level":            with(func(r *runs.Runs) { r.Tree[4].Level = 4 }),
		"a size of 1":                     with(func(r *runs.Runs) { r.Size, r.Rings[0].L, r.Rings[1].L, r.Rings[4].L = 1, nil, nil, nil }),
		"a size of 0":                     with(func(r *runs.Runs) { r.Size, r.Rings[0].L, r.Rings[1].L, r.Rings[4].L = 0, nil, nil, nil }),
		"a size below 0":                  with(func(r *runs.Runs) { r.Size = -3 }),
		"a size of 17":                    with(func(r *runs.Runs) { r.Size = 17 }),
		"the least size that an int has":  with(func(r *runs.Runs) { r.Size = math.MinInt }),
		"the greatest":                    with(func(r *runs.Runs) { r.Size = math.MaxInt }),
		"a ring too few":                  with(func(r *runs.Runs) { r.Rings, r.On = r.Rings[:4], bits.Of(0, 1, 3) }),
		"a ring too few for On":           with(func(r *runs.Runs) { r.Rings = r.Rings[:4] }),
		"a ring too many":                 with(func(r *runs.Runs) { r.Rings = append(r.Rings, ring.Ring{}) }),
		"a ring too many, plugged":        with(func(r *runs.Runs) { r.Rings, r.On = append(r.Rings, ring.Ring{Next: 30}), r.On.With(5) }),
		"no rings":                        with(func(r *runs.Runs) { r.Rings = nil }),
		"a row too few":                   with(func(r *runs.Runs) { r.Shared = r.Shared[:1] }),
		"a row too many":                  with(func(r *runs.Runs) { r.Shared = append(r.Shared, []int{30}) }),
		"no rows":                         with(func(r *runs.Runs) { r.Shared = nil }),
		"nobody is plugged":               with(func(r *runs.Runs) { r.On, r.Rings = 0, make([]ring.Ring, 5) }),
		"plugged is one behind the last":  with(func(r *runs.Runs) { r.On = r.On.With(5) }),
		"plugged is 63":                   with(func(r *runs.Runs) { r.On = r.On.With(63) }),
		"plugged are all numbers":         with(func(r *runs.Runs) { r.On = 1<<64 - 1 }),
		"next where nobody is plugged":    with(func(r *runs.Runs) { r.Rings[2].Next = 30 }),
		"others where nobody is plugged":  with(func(r *runs.Runs) { r.Rings[2].L = []int{30} }),
		"a plugged one taken away":        with(func(r *runs.Runs) { r.On = r.On.Without(1) }),
		"a ring one longer than the size": with(func(r *runs.Runs) { r.Rings[4].L = []int{1, 12, 3, 30} }),
		"a ring longer than the size is":  with(func(r *runs.Runs) { r.Size = 2 }),
		"next, and in its ring":           with(func(r *runs.Runs) { r.Rings[0].L[1] = 4 }),
		"twice in one ring":               with(func(r *runs.Runs) { r.Rings[0].L[1] = 9 }),
		"next in two rings":               with(func(r *runs.Runs) { r.Rings[3].Next = 4 }),
		"in two rings":                    with(func(r *runs.Runs) { r.Rings[1].L[0] = 12 }),
		"twice in one row":                with(func(r *runs.Runs) { r.Shared[1][2] = 10 }),
		"in two rows":                     with(func(r *runs.Runs) { r.Shared[1][0] = 6 }),
		"in a ring, and in a row":         with(func(r *runs.Runs) { r.Shared[0][0] = 3 }),
		"next, and in a row":              with(func(r *runs.Runs) { r.Shared[1][1] = 5 }),
		"a 0 in a ring":                   with(func(r *runs.Runs) { r.Rings[4].L[1] = 0 }),
		"a 0 in a row":                    with(func(r *runs.Runs) { r.Shared[1][2] = 0 }),
		"next below 0":                    with(func(r *runs.Runs) { r.Rings[3].Next = -1 }),
		"one below 0 in a ring":           with(func(r *runs.Runs) { r.Rings[1].L[0] = -7 }),
		"one below 0 in a row":            with(func(r *runs.Runs) { r.Shared[0][1] = -6 }),
		"the least int next":              with(func(r *runs.Runs) { r.Rings[0].Next = math.MinInt }),
	}
}

// nobody asks for nobody, and the Runs as they were.
func nobody(t *testing.T, name string, r runs.Runs, p, tick int) {
	t.Helper()
	keep := copied(r)
	s, g, place := find.Local(r, p, tick)
	if g != 0 || place != find.Nobody || !same(s, keep) || !same(r, keep) {
		t.Errorf("%s: of %d at %d is told %d from %d, with %v, of %v", name, p, tick, g, place, s, keep)
	}
}

// P16.1: of Runs that may not be nobody is told, whatever is asked.
func TestMayNot(t *testing.T) {
	for name, r := range mayNots() {
		if runs.May(r) {
			t.Fatalf("%s: they may be", name)
		}
		for _, p := range []int{0, 1, 2, 3, 4, 5, 6, 63, 64, -1, math.MinInt, math.MaxInt} {
			for _, tick := range []int{1, 61, 0, -61, math.MinInt, math.MaxInt} {
				nobody(t, name, r, p, tick)
			}
		}
	}
}

// P16.1: of a p that is no processor nobody is told.
func TestNoProcessor(t *testing.T) {
	for name, x := range trees() {
		r := crowd(x)
		n := len(r.Rings)
		for _, p := range []int{-1, -2, -64, -1 << 32, math.MinInt, math.MinInt + 1, n, n + 1, 32, 63, 64, 65, 64 + n, 1 << 32, math.MaxInt - 1, math.MaxInt} {
			for _, tick := range slices.Concat(turns, others) {
				nobody(t, name, r, p, tick)
			}
		}
	}
}

// P16.1: of one that isn't plugged nobody is told, though somebody stands in
// the row of its node, and on all others.
func TestNotPlugged(t *testing.T) {
	for name, x := range trees() {
		for p := range crowd(x).Rings {
			r := crowd(x)
			if len(r.Rings) == 1 {
				continue
			}
			r.Rings[p], r.On = ring.Ring{}, r.On.Without(p)
			if !runs.May(r) {
				t.Fatalf("%s, without %d: they may not be", name, p)
			}
			for _, tick := range slices.Concat(turns, others) {
				nobody(t, name, r, p, tick)
			}
		}
	}
}
