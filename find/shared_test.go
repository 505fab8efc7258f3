package find_test

import (
	"slices"
	"testing"

	"catafalque/api"
	"catafalque/find"
	"catafalque/ring"
	"catafalque/runs"
)

// mark is what is written over others.
const mark = -77

// roomy are the same Runs, with room behind each list, in which others stand.
func roomy(r runs.Runs) runs.Runs {
	s := copied(r)
	s.Tree = append(s.Tree, api.Vertex{Parent: 60, Level: 60})[:len(s.Tree)]
	s.Rings = append(s.Rings, ring.Ring{Next: 61, L: []int{62}})[:len(s.Rings)]
	for p := range s.Rings {
		s.Rings[p].L = append(s.Rings[p].L, 63, 64, 65)[:len(s.Rings[p].L)]
	}
	s.Shared = append(s.Shared, []int{66})[:len(s.Shared)]
	for n := range s.Shared {
		s.Shared[n] = append(s.Shared[n], 67, 68, 69)[:len(s.Shared[n])]
	}
	return s
}

// whole are Runs, with what stands in the room behind their lists.
func whole(r runs.Runs) runs.Runs {
	r.Tree = r.Tree[:cap(r.Tree)]
	r.Rings = slices.Clone(r.Rings[:cap(r.Rings)])
	for p, x := range r.Rings {
		r.Rings[p].L = x.L[:cap(x.L)]
	}
	r.Shared = slices.Clone(r.Shared[:cap(r.Shared)])
	for n, row := range r.Shared {
		r.Shared[n] = row[:cap(row)]
	}
	return r
}

// rowsOf are all lists of numbers of Runs, whole.
func rowsOf(r runs.Runs) [][]int {
	r = whole(r)
	l := slices.Clone(r.Shared)
	for _, x := range r.Rings {
		l = append(l, x.L)
	}
	return l
}

// scribble writes over all that Runs have, and over the room behind it.
func scribble(r runs.Runs) {
	for _, l := range rowsOf(r) {
		for k := range l {
			l[k] = mark
		}
	}
	for k := range r.Tree[:cap(r.Tree)] {
		r.Tree[:cap(r.Tree)][k] = api.Vertex{Parent: mark, Level: mark}
	}
	for k := range r.Rings[:cap(r.Rings)] {
		r.Rings[:cap(r.Rings)][k] = ring.Ring{Next: mark, L: []int{mark}}
	}
	for k := range r.Shared[:cap(r.Shared)] {
		r.Shared[:cap(r.Shared)][k] = []int{mark}
	}
}

// apart tells whether no two lists of Runs share anything.
func apart(r runs.Runs) bool {
	lists := rowsOf(r)
	for k, l := range lists {
		keep := slices.Clone(l)
		for at := range l {
			l[at] = mark
		}
		for at, other := range lists {
			if at != k && slices.Contains(other, mark) {
				return false
			}
		}
		copy(l, keep)
	}
	return true
}

// R3: what is handed in stays, also the room behind its lists, and what is told
// is shared with nothing, whoever is told, or nobody.
func TestNothingShared(t *testing.T) {
	for name, r := range map[string]runs.Runs{
		"some":         some(),
		"no next ones": with(func(r *runs.Runs) { r.Rings[0].Next, r.Rings[4].Next = 0, 0 }),
		"rows alone":   with(func(r *runs.Runs) { clear(r.Rings) }),
		"nobody":       with(func(r *runs.Runs) { clear(r.Rings); clear(r.Shared) }),
		"may not be":   with(func(r *runs.Runs) { r.Size = 17 }),
		"no tree":      with(func(r *runs.Runs) { r.Tree = nil }),
		"too many": with(func(r *runs.Runs) {
			r.Rings, r.Shared = append(r.Rings, ring.Ring{L: []int{41}}), append(r.Shared, []int{42})
		}),
	} {
		for p := -1; p <= 6; p++ {
			for _, tick := range []int{0, 1, 60, 61} {
				in := roomy(r)
				keep := copied(whole(in))
				told, _, _ := find.Local(in, p, tick)
				again, g, place := find.Local(in, p, tick)
				if !apart(told) {
					t.Fatalf("%s, %d at %d: two lists of %v are one", name, p, tick, told)
				}
				scribble(told)
				if !same(whole(in), keep) {
					t.Fatalf("%s, %d at %d: %v was handed in, and is %v", name, p, tick, keep, whole(in))
				}
				last, h, where := find.Local(in, p, tick)
				if !same(last, again) || g != h || place != where {
					t.Fatalf("%s, %d at %d: %v, %d, %d, and again %v, %d, %d", name, p, tick, again, g, place, last, h, where)
				}
				scribble(in)
				if !same(last, again) {
					t.Fatalf("%s, %d at %d: what was told, %v, is %v", name, p, tick, again, last)
				}
			}
		}
	}
}

// R4: nothing is kept: Runs that one came from can be gone on from in another
// way, and who comes to what was told comes there alone.
func TestNothingKept(t *testing.T) {
	r := some()
	one, a, _ := finds(t, r, 0, 61)
	two, b, _ := finds(t, r, 0, 1)
	three, c, _ := finds(t, one, 0, 61)
	four, e := runs.Push(one, 0, 30)
	five, d, _ := finds(t, two, 0, 1)
	if e != api.OK || !slices.Equal([]int{a, b, c, d}, []int{8, 4, 6, 9}) {
		t.Errorf("told are %d, %d, %d, %d", a, b, c, d)
	}
	for k, x := range []struct {
		r   runs.Runs
		own []int
		row []int
	}{
		{r, []int{4, 9, 2}, []int{8, 6}},
		{one, []int{4, 9, 2}, []int{6}},
		{two, []int{9, 2}, []int{8, 6}},
		{three, []int{4, 9, 2}, nil},
		{four, []int{4, 9, 2}, []int{6, 30}},
		{five, []int{2}, []int{8, 6}},
	} {
		if !slices.Equal(ring.All(x.r.Rings[0]), x.own) || !slices.Equal(x.r.Shared[0], x.row) {
			t.Errorf("%d: they stand so: %v", k, x.r)
		}
	}
	if !same(r, some()) {
		t.Errorf("handed in was %v, and is %v", some(), r)
	}
}
