package runs_test

import (
	"math"
	"slices"
	"testing"

	"catafalque/api"
	"catafalque/bits"
	"catafalque/ring"
	"catafalque/runs"
)

// mays are Runs that may be, up to the edges.
func mays() map[string]runs.Runs {
	return map[string]runs.Runs{
		"some":                         some(),
		"all plugged":                  with(func(r *runs.Runs) { r.On = 31 }),
		"no rows but empty ones":       with(func(r *runs.Runs) { r.Shared = [][]int{nil, {}} }),
		"no rings but empty ones":      with(func(r *runs.Runs) { r.Rings = make([]ring.Ring, 5) }),
		"one alone is plugged":         with(func(r *runs.Runs) { r.Rings, r.On = make([]ring.Ring, 5), bits.Of(2) }),
		"the first alone is plugged":   with(func(r *runs.Runs) { r.Rings, r.On = make([]ring.Ring, 5), bits.Of(0) }),
		"the last alone is plugged":    with(func(r *runs.Runs) { r.Rings, r.On = make([]ring.Ring, 5), bits.Of(4) }),
		"an unplugged one's empty row": with(func(r *runs.Runs) { r.Rings[2].L = []int{} }),
		"a ring as long as the size":   with(func(r *runs.Runs) { r.Rings[1] = ring.Ring{Next: 7, L: []int{31, 32, 33}} }),
		"without a next one, as long":  with(func(r *runs.Runs) { r.Rings[1] = ring.Ring{L: []int{31, 32, 33}} }),
		"a size of 16":                 with(func(r *runs.Runs) { r.Size = 16 }),
		"a size of 4":                  with(func(r *runs.Runs) { r.Size = 4 }),
		"the least size":               with(func(r *runs.Runs) { r.Size, r.Rings[4].L = 2, []int{1, 12} }),
		"the greatest numbers":         with(func(r *runs.Runs) { r.Rings[3].Next, r.Shared[1][0] = math.MaxInt, math.MaxInt-1 }),
		"a row longer than there are Gs": with(func(r *runs.Runs) {
			r.Shared[0] = nil
			for g := range 200 {
				r.Shared[0] = append(r.Shared[0], 100+g)
			}
		}),
	}
}

// mayNots are Runs that may not be, most of them for one thing alone.
func mayNots() map[string]runs.Runs {
	return map[string]runs.Runs{
		"no tree":                         with(func(r *runs.Runs) { r.Tree = nil }),
		"a core without any":              with(func(r *runs.Runs) { r.Tree = r.Tree[:len(r.Tree)-2] }),
		"a vertex whose Parent is behind": with(func(r *runs.Runs) { r.Tree[3].Parent = 7 }),
		"a size of 1":                     with(func(r *runs.Runs) { r.Size, r.Rings, r.Shared = 1, make([]ring.Ring, 5), make([][]int, 2) }),
		"a size of 0":                     with(func(r *runs.Runs) { r.Size, r.Rings = 0, make([]ring.Ring, 5) }),
		"a size of 17":                    with(func(r *runs.Runs) { r.Size = 17 }),
		"a size below 0":                  with(func(r *runs.Runs) { r.Size, r.Rings = -3, make([]ring.Ring, 5) }),
		"the least size that an int has":  with(func(r *runs.Runs) { r.Size, r.Rings = math.MinInt, make([]ring.Ring, 5) }),
		"the greatest":                    with(func(r *runs.Runs) { r.Size = math.MaxInt }),
		"a ring too few":                  with(func(r *runs.Runs) { r.Rings, r.On = r.Rings[:4], bits.Of(0, 1, 3) }),
		"a ring too many":                 with(func(r *runs.Runs) { r.Rings = append(r.Rings, ring.Ring{}) }),
		"a ring too many, plugged":        with(func(r *runs.Runs) { r.Rings, r.On = append(r.Rings, ring.Ring{}), r.On.With(5) }),
		"no rings":                        with(func(r *runs.Runs) { r.Rings, r.On = nil, 1 }),
		"a row too few":                   with(func(r *runs.Runs) { r.Shared = r.Shared[:1] }),
		"a row too many":                  with(func(r *runs.Runs) { r.Shared = append(r.Shared, nil) }),
		"no rows":                         with(func(r *runs.Runs) { r.Shared = nil }),
		"nobody is plugged":               with(func(r *runs.Runs) { r.On, r.Rings = 0, make([]ring.Ring, 5) }),
		"plugged is one behind the last":  with(func(r *runs.Runs) { r.On = r.On.With(5) }),
		"plugged is 63":                   with(func(r *runs.Runs) { r.On = r.On.With(63) }),
		"plugged is no processor alone":   with(func(r *runs.Runs) { r.On, r.Rings = bits.Of(5), make([]ring.Ring, 5) }),
		"plugged are all numbers":         with(func(r *runs.Runs) { r.On = 1<<64 - 1 }),
		"next where nobody is plugged":    with(func(r *runs.Runs) { r.Rings[2].Next = 30 }),
		"others where nobody is plugged":  with(func(r *runs.Runs) { r.Rings[2].L = []int{30} }),
		"a plugged one taken away":        with(func(r *runs.Runs) { r.On = r.On.Without(1) }),
		"the first one taken away":        with(func(r *runs.Runs) { r.On = r.On.Without(0) }),
		"the last one taken away":         with(func(r *runs.Runs) { r.On = r.On.Without(4) }),
		"a ring one longer than the size": with(func(r *runs.Runs) { r.Rings[4].L = []int{1, 12, 3, 30} }),
		"without a next one, too":         with(func(r *runs.Runs) { r.Rings[4] = ring.Ring{L: []int{1, 12, 3, 30}} }),
		"a ring longer than the size is":  with(func(r *runs.Runs) { r.Size = 2 }),
		"next, and in its ring":           with(func(r *runs.Runs) { r.Rings[0].L[1] = 4 }),
		"twice in one ring":               with(func(r *runs.Runs) { r.Rings[0].L[1] = 9 }),
		"next in two rings":               with(func(r *runs.Runs) { r.Rings[3].Next = 4 }),
		"in two rings":                    with(func(r *runs.Runs) { r.Rings[1].L[0] = 12 }),
		"next in one, in another one":     with(func(r *runs.Runs) { r.Rings[1].L[0] = 11 }),
		"twice in one row":                with(func(r *runs.Runs) { r.Shared[1][2] = 10 }),
		"in two rows":                     with(func(r *runs.Runs) { r.Shared[1][0] = 6 }),
		"in a ring, and in a row":         with(func(r *runs.Runs) { r.Shared[0][0] = 3 }),
		"next, and in a row":              with(func(r *runs.Runs) { r.Shared[1][1] = 5 }),
		"a 0 in a ring":                   with(func(r *runs.Runs) { r.Rings[4].L[1] = 0 }),
		"a 0 in a row":                    with(func(r *runs.Runs) { r.Shared[1][2] = 0 }),
		"next below 0":                    with(func(r *runs.Runs) { r.Rings[3].Next = -1 }),
		"one below 0 in a ring":           with(func(r *runs.Runs) { r.Rings[1].L[0] = -7 }),
		"one below 0 in a row":            with(func(r *runs.Runs) { r.Shared[0][1] = -6 }),
		"the least int next":              with(func(r *runs.Runs) { r.Rings[0].Next = math.MinInt }),
		"the least int in a row":          with(func(r *runs.Runs) { r.Shared[0][1] = math.MinInt }),
		"nothing at all":                  {},
	}
}

// P15.1: whether Runs may be.
func TestMay(t *testing.T) {
	for name, r := range mays() {
		if !runs.May(r) {
			t.Errorf("%s may not be: %v", name, r)
		}
		stands(t, r)
	}
	for name, r := range mayNots() {
		if runs.May(r) {
			t.Errorf("%s may be: %v", name, r)
		}
		stands(t, r)
	}
}

// P15.1: trees of all kinds, with as many rings and rows as they ask for, and
// with others.
func TestMayTrees(t *testing.T) {
	for name, x := range fair() {
		r := made(t, x, 2)
		for name2, y := range fair() {
			s := copied(r)
			s.Tree = y
			fits := count(x, len(x), api.Proc) == count(y, len(y), api.Proc) && count(x, len(x), api.Node) == count(y, len(y), api.Node)
			if runs.May(s) != fits {
				t.Errorf("of %s, laid below %s, they may be: %t", name, name2, !fits)
			}
		}
		for name2, y := range foul() {
			s := copied(r)
			s.Tree = y
			if runs.May(s) {
				t.Errorf("of %s, laid below %s, they may be", name, name2)
			}
		}
		for _, size := range slices.Concat(odd, []int{0, 1, 2, 3, 15, 16, 17}) {
			s := copied(r)
			s.Size = size
			if runs.May(s) != (2 <= size && size <= 16) {
				t.Errorf("%s, of the size %d, may be: %t", name, size, runs.May(s))
			}
		}
		for p := range 64 {
			s := copied(r)
			s.On = 1 << p
			if runs.May(s) != (p < len(r.Rings)) {
				t.Errorf("%s, of which %d is plugged, may be: %t", name, p, runs.May(s))
			}
		}
	}
}

// each gives Runs of two processors of one node of all kinds: rings, a row, and
// who is plugged.
func each(give func(r runs.Runs)) {
	x := tree([]int{2})
	var rings []ring.Ring
	for _, next := range []int{0, 1, 2, 5, -1} {
		for _, l := range [][]int{nil, {1}, {6}, {2, 3}, {1, 1}, {0}, {4, 5, 6}} {
			rings = append(rings, ring.Ring{Next: next, L: l})
		}
	}
	for _, a := range rings {
		for _, b := range rings {
			for _, row := range [][]int{nil, {1}, {4, 7}, {7, 7}, {-7}} {
				for on := range 5 {
					give(runs.Runs{Tree: x, Size: 2, Rings: []ring.Ring{a, b}, Shared: [][]int{row}, On: bits.Set(on)})
				}
			}
		}
	}
}

// P15.1, P15.2, P15.3, P1: whatever stands there, and whoever comes.
func TestAnything(t *testing.T) {
	passed := 0
	each(func(r runs.Runs) {
		stands(t, r)
		if runs.May(r) {
			passed++
			for p := -1; p <= 2; p++ {
				for g := -1; g <= 8; g++ {
					puts(t, r, p, g)
					pushes(t, r, p, g)
				}
			}
			return
		}
		puts(t, r, 0, 8)
		pushes(t, r, 0, 8)
	})
	if passed < 100 {
		t.Errorf("%d of them may be", passed)
	}
}

// fails asks for an error of Put or Push; with it the Runs are told as they
// were.
func fails(t *testing.T, name string, call func(r runs.Runs, place, g int) (runs.Runs, api.Errno), r runs.Runs, place, g int, want api.Errno) {
	t.Helper()
	keep := copied(r)
	s, e := call(r, place, g)
	if e != want {
		t.Errorf("%s, %d to %d: %d, not %d", name, g, place, e, want)
	}
	if !same(s, keep) || !same(r, keep) {
		t.Errorf("%s, %d to %d: %v is told as %v", name, g, place, keep, s)
	}
}

// P15.2: of Runs that may not be nothing else is asked.
func TestErrArgOfRuns(t *testing.T) {
	for name, r := range mayNots() {
		for _, g := range []int{30, 4, 0, -1} {
			for place := -1; place <= 5; place++ {
				fails(t, name, runs.Put, r, place, g, api.ErrArg)
				fails(t, name, runs.Push, r, place, g, api.ErrArg)
			}
		}
	}
}

// P15.2: places and numbers that there aren't are told ahead of all else.
func TestErrArg(t *testing.T) {
	for _, g := range []int{30, 4, 9, 8, 0, -1, math.MinInt} {
		for _, p := range append([]int{5, 6}, odd...) {
			fails(t, "no processor", runs.Put, some(), p, g, api.ErrArg)
		}
		for _, n := range append([]int{2, 3, 4, 5}, odd...) {
			fails(t, "no node", runs.Push, some(), n, g, api.ErrArg)
		}
	}
	for _, g := range []int{0, -1, -2, -4, -1 << 32, math.MinInt} {
		for p := range 5 {
			fails(t, "no number", runs.Put, some(), p, g, api.ErrArg)
		}
		for n := range 2 {
			fails(t, "no number", runs.Push, some(), n, g, api.ErrArg)
		}
	}
	for name, x := range fair() {
		r := made(t, x, 2)
		fails(t, name, runs.Put, r, len(r.Rings), 1, api.ErrArg)
		fails(t, name, runs.Push, r, len(r.Shared), 1, api.ErrArg)
	}
}

// P15.2: who stands anywhere comes nowhere, also to one that isn't plugged.
func TestErrThere(t *testing.T) {
	for _, g := range all(some()) {
		for p := range 5 {
			fails(t, "there", runs.Put, some(), p, g, api.ErrThere)
		}
		for n := range 2 {
			fails(t, "there", runs.Push, some(), n, g, api.ErrThere)
		}
	}
}

// P15.2: nobody comes to one that isn't plugged.
func TestErrNone(t *testing.T) {
	for _, g := range []int{13, 30, 64, 65, math.MaxInt} {
		fails(t, "not plugged", runs.Put, some(), 2, g, api.ErrNone)
		puts(t, with(func(r *runs.Runs) { r.On = r.On.With(2) }), 2, g)
		for p := range 5 {
			puts(t, some(), p, g)
		}
		pushes(t, some(), 0, g)
		pushes(t, some(), 1, g)
	}
}
