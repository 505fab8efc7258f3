package balance_test

import (
	"math"
	"testing"

	"catafalque/balance"
	"catafalque/bits"
	"catafalque/ring"
	"catafalque/runs"
)

// some are Runs in which some stand next, some in rings, some in rows: the
// processors 0, 1 and 2 are of the node 0, and 3 and 4 of the node 1; 2 isn't
// plugged.
func some() runs.Runs {
	return runs.Runs{
		Tree:   tree("m(n(c(pp)c(p))n(c(pp)))"),
		Size:   3,
		Rings:  []ring.Ring{{Next: 4, L: []int{9, 2}}, {L: []int{7, 13}}, {}, {Next: 5}, {Next: 11, L: []int{1, 12, 3}}},
		Shared: [][]int{{8, 6}, {10, 20, 15}},
		On:     bits.Of(0, 1, 3, 4),
	}
}

// with are some Runs turned by a change.
func with(change func(r *runs.Runs)) runs.Runs {
	r := some()
	change(&r)
	return r
}

// mayNots are Runs that may not be, most of them for one thing alone.
func mayNots() map[string]runs.Runs {
	return map[string]runs.Runs{
		"nothing at all":                  {},
		"no tree":                         with(func(r *runs.Runs) { r.Tree = nil }),
		"a core without any":              with(func(r *runs.Runs) { r.Tree = r.Tree[:len(r.Tree)-2] }),
		"a vertex whose Parent is behind": with(func(r *runs.Runs) { r.Tree[3].Parent = 7 }),
		"a vertex of no Level":            with(func(r *runs.Runs) { r.Tree[4].Level = 4 }),
		"a size of 1":                     with(func(r *runs.Runs) { r.Size, r.Rings = 1, make([]ring.Ring, 5) }),
		"a size of 0":                     with(func(r *runs.Runs) { r.Size, r.Rings = 0, make([]ring.Ring, 5) }),
		"a size below 0":                  with(func(r *runs.Runs) { r.Size, r.Rings = -3, make([]ring.Ring, 5) }),
		"a size of 17":                    with(func(r *runs.Runs) { r.Size = 17 }),
		"the least size that an int has":  with(func(r *runs.Runs) { r.Size = math.MinInt }),
		"the greatest":                    with(func(r *runs.Runs) { r.Size = math.MaxInt }),
		"a ring too few":                  with(func(r *runs.Runs) { r.Rings, r.On = r.Rings[:4], bits.Of(0, 1, 3) }),
		"a ring too few for On":           with(func(r *runs.Runs) { r.Rings = r.Rings[:4] }),
		"a ring too many":                 with(func(r *runs.Runs) { r.Rings = append(r.Rings, ring.Ring{}) }),
		"a ring too many, plugged":        with(func(r *runs.Runs) { r.Rings, r.On = append(r.Rings, ring.Ring{Next: 40}), r.On.With(5) }),
		"no rings":                        with(func(r *runs.Runs) { r.Rings = nil }),
		"a row too few":                   with(func(r *runs.Runs) { r.Shared = r.Shared[:1] }),
		"a row too many":                  with(func(r *runs.Runs) { r.Shared = append(r.Shared, []int{40}) }),
		"no rows":                         with(func(r *runs.Runs) { r.Shared = nil }),
		"nobody is plugged":               with(func(r *runs.Runs) { r.On, r.Rings = 0, make([]ring.Ring, 5) }),
		"plugged is one behind the last":  with(func(r *runs.Runs) { r.On = r.On.With(5) }),
		"plugged is 63":                   with(func(r *runs.Runs) { r.On = r.On.With(63) }),
		"plugged are all numbers":         with(func(r *runs.Runs) { r.On = math.MaxUint64 }),
		"next where nobody is plugged":    with(func(r *runs.Runs) { r.Rings[2].Next = 40 }),
		"others where nobody is plugged":  with(func(r *runs.Runs) { r.Rings[2].L = []int{40} }),
		"a plugged one taken away":        with(func(r *runs.Runs) { r.On = r.On.Without(1) }),
		"a ring one longer than the size": with(func(r *runs.Runs) { r.Rings[1].L = []int{7, 13, 40, 41} }),
		"a ring longer than the size is":  with(func(r *runs.Runs) { r.Size = 2 }),
		"next, and in its ring":           with(func(r *runs.Runs) { r.Rings[4].L[1] = 11 }),
		"twice in one ring":               with(func(r *runs.Runs) { r.Rings[1].L[1] = 7 }),
		"next in two rings":               with(func(r *runs.Runs) { r.Rings[3].Next = 11 }),
		"in two rings":                    with(func(r *runs.Runs) { r.Rings[1].L[0] = 12 }),
		"twice in one row":                with(func(r *runs.Runs) { r.Shared[1][2] = 10 }),
		"in two rows":                     with(func(r *runs.Runs) { r.Shared[0][0] = 20 }),
		"in a ring, and in a row":         with(func(r *runs.Runs) { r.Shared[1][0] = 13 }),
		"next, and in a row":              with(func(r *runs.Runs) { r.Shared[1][1] = 5 }),
		"a 0 in a ring":                   with(func(r *runs.Runs) { r.Rings[4].L[1] = 0 }),
		"a 0 in a row":                    with(func(r *runs.Runs) { r.Shared[1][2] = 0 }),
		"next below 0":                    with(func(r *runs.Runs) { r.Rings[3].Next = -1 }),
		"one below 0 in a ring":           with(func(r *runs.Runs) { r.Rings[1].L[0] = -7 }),
		"one below 0 in a row":            with(func(r *runs.Runs) { r.Shared[1][1] = -6 }),
		"the least int next":              with(func(r *runs.Runs) { r.Rings[3].Next = math.MinInt }),
	}
}

// stays asks Balance for nobody, and the Runs as they were.
func stays(t *testing.T, name string, r runs.Runs) {
	t.Helper()
	keep := copied(r)
	if s, moved := balances(t, r); moved != 0 || !same(s, keep) {
		t.Errorf("%s: %v, %d", name, s, moved)
	}
}

// P19.1: of Runs that may not be nobody is moved, in each way in which they may
// not, whichever row is the longest one; of those that are but a change away
// from them some are.
func TestMayNot(t *testing.T) {
	long := map[string]func(r *runs.Runs){
		"as they are":        func(r *runs.Runs) {},
		"the first row long": func(r *runs.Runs) { r.Shared[0] = append(r.Shared[0], row(100, 120)...) },
		"the last row long": func(r *runs.Runs) {
			last := len(r.Shared) - 1
			r.Shared[last] = append(r.Shared[last], row(100, 121)...)
		},
		"the first row empty": func(r *runs.Runs) { r.Shared[0] = nil },
	}
	for how, change := range long {
		r := some()
		change(&r)
		if s, moved := balances(t, r); (how != "as they are") != (moved > 0) || !runs.May(s) {
			t.Errorf("of those that may be, %s: %v, %d", how, s, moved)
		}
		for name, r := range mayNots() {
			if len(r.Shared) > 0 {
				change(&r)
			}
			// Who isn't there any more stands there no more twice, either.
			if runs.May(r) {
				if how == "the first row empty" {
					continue
				}
				t.Fatalf("%s, %s: they may be", name, how)
			}
			stays(t, name+", "+how, r)
		}
	}
}

// P19.1: Runs without rows have no Ends, whatever else they have.
func TestEndsNone(t *testing.T) {
	for name, r := range map[string]runs.Runs{
		"nothing at all": {},
		"no rows":        with(func(r *runs.Runs) { r.Shared = nil }),
		"empty rows":     with(func(r *runs.Runs) { r.Shared = [][]int{} }),
		"room for rows":  with(func(r *runs.Runs) { r.Shared = r.Shared[:0] }),
	} {
		if a, b := balance.Ends(r); a != -1 || b != -1 {
			t.Errorf("%s: %d, %d", name, a, b)
		}
		stays(t, name, r)
	}
}

// P19.1: Ends are told by the rows alone, also of Runs that may not be: without
// a tree, with more rows than that has nodes, with whoever stands in them.
func TestEndsMayNot(t *testing.T) {
	for name, r := range mayNots() {
		for _, c := range []struct {
			rows [][]int
			a, b int
		}{
			{[][]int{{}}, 0, 0},
			{[][]int{{1}}, 0, 0},
			{[][]int{nil, {1}}, 1, 0},
			{[][]int{{1}, {}}, 0, 1},
			{[][]int{{0, 0}, {-1}}, 0, 1},
			{[][]int{{7}, {7, 7}, {7, 7}, {7}}, 1, 0},
			{[][]int{{7, 7}, nil, {7, 7}, {}}, 0, 1},
			{[][]int{{math.MinInt}, {math.MaxInt, 0, 0}, {}}, 1, 2},
			{append(make([][]int, 70), []int{1}, []int{2, 3}), 71, 0},
			{append([][]int{{1}, {2, 3}}, make([][]int, 70)...), 1, 2},
		} {
			r.Shared = c.rows
			if a, b := balance.Ends(r); a != c.a || b != c.b {
				t.Errorf("%s, of the rows %v: %d, %d, not %d, %d", name, c.rows, a, b, c.a, c.b)
			}
			if !runs.May(r) {
				stays(t, name, r)
			}
		}
	}
}

// P19.1, P19.2, P1: whatever stands there, whether it may or not.
func TestAnything(t *testing.T) {
	x := tree("m(n(c(pp))n(c(p)))")
	lists := [][]int{nil, {1}, {2, 3}, {4, 5, 6}, {7, 8, 9, 10}, {11, 12, 13, 14, 15}, {1, 1}, {-1, 20, 21}, {16, 0, 17, 18}}
	fair, foul := 0, 0
	for _, next := range []int{0, 1, 30, -1} {
		for _, a := range lists {
			for _, b := range lists {
				for _, c := range append(lists, []int{99}) {
					for on := range bits.Set(9) {
						r := runs.Runs{Tree: x, Size: 2, Rings: []ring.Ring{{Next: next}, {}, {}}, Shared: [][]int{a, b, c}, On: on}
						// 99 stands for no third row.
						if len(c) == 1 && c[0] == 99 {
							r.Shared = r.Shared[:2]
						}
						if runs.May(r) {
							fair++
							balances(t, r)
							continue
						}
						// All of them tell the same: some are enough.
						if foul++; foul%10 == 0 {
							stays(t, "foul", r)
						}
					}
				}
			}
		}
	}
	if fair < 100 || foul < 100 {
		t.Errorf("%d of them may be, %d may not", fair, foul)
	}
}
