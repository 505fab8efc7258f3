package balance_test

import (
	"slices"
	"testing"

	"catafalque/api"
	"catafalque/balance"
	"catafalque/ring"
	"catafalque/runs"
)

// mark is what is written over others.
const mark = -77

// roomy are the same Runs, with room behind each list, in which others stand.
func roomy(r runs.Runs) runs.Runs {
	s := copied(r)
	s.Tree = append(s.Tree, api.Vertex{Parent: 60, Level: 60})[:len(s.Tree)]
	s.Rings = append(s.Rings, ring.Ring{Next: 61, L: []int{62}})[:len(s.Rings)]
	for p := range s.Rings {
		s.Rings[p].L = append(s.Rings[p].L, 63, 64, 65)[:len(s.Rings[p].L)]
	}
	s.Shared = append(s.Shared, []int{66})[:len(s.Shared)]
	for n := range s.Shared {
		s.Shared[n] = append(s.Shared[n], 67, 68, 69)[:len(s.Shared[n])]
	}
	return s
}

// whole are Runs, with what stands in the room behind their lists.
func whole(r runs.Runs) runs.Runs {
	r.Tree = r.Tree[:cap(r.Tree)]
	r.Rings = slices.Clone(r.Rings[:cap(r.Rings)])
	for p, x := range r.Rings {
		r.Rings[p].L = x.L[:cap(x.L)]
	}
	r.Shared = slices.Clone(r.Shared[:cap(r.Shared)])
	for n, row := range r.Shared {
		r.Shared[n] = row[:cap(row)]
	}
	return r
}

// rowsOf are all lists of numbers of Runs, whole.
func rowsOf(r runs.Runs) [][]int {
	r = whole(r)
	l := slices.Clone(r.Shared)
	for _, x := range r.Rings {
		l = append(l, x.L)
	}
	return l
}

// scribble writes over all that Runs have, and over the room behind it.
func scribble(r runs.Runs) {
	for _, l := range rowsOf(r) {
		for k := range l {
			l[k] = mark
		}
	}
	for k := range r.Tree[:cap(r.Tree)] {
		r.Tree[:cap(r.Tree)][k] = api.Vertex{Parent: mark, Level: mark}
	}
	for k := range r.Rings[:cap(r.Rings)] {
		r.Rings[:cap(r.Rings)][k] = ring.Ring{Next: mark, L: []int{mark}}
	}
	for k := range r.Shared[:cap(r.Shared)] {
		r.Shared[:cap(r.Shared)][k] = []int{mark}
	}
}

// shares tells whether two lists of Runs share anything.
func shares(r runs.Runs) bool {
	lists := rowsOf(r)
	for k, l := range lists {
		keep := slices.Clone(l)
		for at := range l {
			l[at] = mark
		}
		for at, other := range lists {
			if at != k && slices.Contains(other, mark) {
				return true
			}
		}
		copy(l, keep)
	}
	return false
}

// stands are Runs of all kinds: in which some are moved, to a row ahead and to
// one behind, in which nobody is, and those that may not be.
func stands() map[string]runs.Runs {
	return map[string]runs.Runs{
		"some":       some(),
		"behind":     with(func(r *runs.Runs) { r.Shared[0] = append(r.Shared[0], row(100, 108)...) }),
		"ahead":      with(func(r *runs.Runs) { r.Shared[1] = append(r.Shared[1], row(100, 108)...) }),
		"to none":    with(func(r *runs.Runs) { r.Shared[0] = nil }),
		"as long":    with(func(r *runs.Runs) { r.Shared[1] = r.Shared[1][:2] }),
		"nobody":     with(func(r *runs.Runs) { clear(r.Rings); clear(r.Shared) }),
		"one node":   rows(9),
		"many nodes": rows(3, 9, 0, 4, 9, 0, 1, 2),
		"may not be": with(func(r *runs.Runs) { r.Size, r.Shared[0] = 17, row(100, 120) }),
		"no tree":    with(func(r *runs.Runs) { r.Tree = nil }),
		"no rows":    with(func(r *runs.Runs) { r.Shared = nil }),
		"too many": with(func(r *runs.Runs) {
			r.Rings, r.Shared = append(r.Rings, ring.Ring{L: []int{41}}), append(r.Shared, []int{42})
		}),
	}
}

// R3: what is handed in stays, also the room behind its lists, and what is told
// is shared with nothing, whether some are moved or nobody is.
func TestNothingShared(t *testing.T) {
	for name, r := range stands() {
		in := roomy(r)
		keep := copied(whole(in))
		told, _ := balance.Balance(in)
		again, moved := balance.Balance(in)
		if shares(told) {
			t.Fatalf("%s: two lists of %v are one", name, told)
		}
		scribble(told)
		if !same(whole(in), keep) {
			t.Fatalf("%s: %v was handed in, and is %v", name, keep, whole(in))
		}
		last, many := balance.Balance(in)
		if !same(last, again) || moved != many {
			t.Fatalf("%s: %v, %d, and again %v, %d", name, again, moved, last, many)
		}
		scribble(in)
		if !same(last, again) {
			t.Fatalf("%s: what was told, %v, is %v", name, again, last)
		}
	}
}

// R3: Ends turn nothing, and tell the same again.
func TestEndsShared(t *testing.T) {
	for name, r := range stands() {
		in := roomy(r)
		keep := copied(whole(in))
		a, b := balance.Ends(in)
		if x, y := balance.Ends(in); a != x || b != y || !same(whole(in), keep) {
			t.Errorf("%s: %d, %d, and again %d, %d, of %v, that is %v", name, a, b, x, y, keep, whole(in))
		}
	}
}

// R3: who comes behind those who stay turns nobody of those who were moved, and
// the other way round; nobody who was moved stands in the room behind them.
func TestBehindCut(t *testing.T) {
	for long := range 20 {
		for _, r := range []runs.Runs{rows(long, 0), rows(0, long), rows(2, long, 1), rows(long)} {
			s, moved := balances(t, roomy(r))
			keep := copied(s)
			a, _ := balance.Ends(r)
			for n, row := range s.Shared {
				if behind := row[len(row):cap(row)]; n == a && moved > 0 && len(behind) > 0 {
					t.Errorf("of %v: behind %v, who stay, stand %v", r, row, behind)
				}
				s.Shared[n] = append(row, mark, mark)
			}
			for n, row := range keep.Shared {
				if !slices.Equal(s.Shared[n], append(row, mark, mark)) {
					t.Errorf("who came to %v turned %v", keep, s)
				}
			}
		}
	}
}

// R4: nothing is kept: Runs that one came from can be gone on from in another
// way, and who comes to what was told comes there alone.
func TestNothingKept(t *testing.T) {
	r := rows(7, 0, 1)
	first := copied(r)
	one, a := balances(t, r)
	two, b := balances(t, one)
	pushed, e := runs.Push(one, 1, 30)
	three, c := balances(t, pushed)
	four, d := balances(t, r)
	if e != api.OK || !slices.Equal([]int{a, b, c, d}, []int{3, 1, 1, 3}) {
		t.Errorf("moved are %d, %d, %d, %d", a, b, c, d)
	}
	for k, x := range []struct {
		r    runs.Runs
		want [][]int
	}{
		{r, [][]int{{1, 2, 3, 4, 5, 6, 7}, {}, {8}}},
		{one, [][]int{{1, 2, 3, 4}, {5, 6, 7}, {8}}},
		{two, [][]int{{1, 2, 3}, {5, 6, 7}, {8, 4}}},
		{pushed, [][]int{{1, 2, 3, 4}, {5, 6, 7, 30}, {8}}},
		{three, [][]int{{1, 2, 3}, {5, 6, 7, 30}, {8, 4}}},
		{four, [][]int{{1, 2, 3, 4}, {5, 6, 7}, {8}}},
	} {
		if !slices.EqualFunc(x.r.Shared, x.want, slices.Equal) {
			t.Errorf("%d: the rows are %v, not %v", k, x.r.Shared, x.want)
		}
	}
	if !same(r, first) {
		t.Errorf("handed in was %v, and is %v", first, r)
	}
}
