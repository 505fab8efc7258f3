package steal_test

import (
	"slices"
	"testing"

	"catafalque/api"
	"catafalque/ring"
	"catafalque/runs"
	"catafalque/steal"
)

// mark is what is written over others.
const mark = -77

// roomy are the same Runs, with room behind each list, in which others stand.
func roomy(r runs.Runs) runs.Runs {
	s := copied(r)
	s.Tree = append(s.Tree, api.Vertex{Parent: 60, Level: 60})[:len(s.Tree)]
	s.Rings = append(s.Rings, ring.Ring{Next: 61, L: []int{62}})[:len(s.Rings)]
	for p := range s.Rings {
		s.Rings[p].L = append(s.Rings[p].L, 63, 64, 65)[:len(s.Rings[p].L)]
	}
	s.Shared = append(s.Shared, []int{66})[:len(s.Shared)]
	for n := range s.Shared {
		s.Shared[n] = append(s.Shared[n], 67, 68, 69)[:len(s.Shared[n])]
	}
	return s
}

// whole are Runs, with what stands in the room behind their lists.
func whole(r runs.Runs) runs.Runs {
	r.Tree = r.Tree[:cap(r.Tree)]
	r.Rings = slices.Clone(r.Rings[:cap(r.Rings)])
	for p, x := range r.Rings {
		r.Rings[p].L = x.L[:cap(x.L)]
	}
	r.Shared = slices.Clone(r.Shared[:cap(r.Shared)])
	for n, row := range r.Shared {
		r.Shared[n] = row[:cap(row)]
	}
	return r
}

// rowsOf are all lists of numbers of Runs, whole.
func rowsOf(r runs.Runs) [][]int {
	r = whole(r)
	l := slices.Clone(r.Shared)
	for _, x := range r.Rings {
		l = append(l, x.L)
	}
	return l
}

// scribble writes over all that Runs have, and over the room behind it.
func scribble(r runs.Runs) {
	for _, l := range rowsOf(r) {
		for k := range l {
			l[k] = mark
		}
	}
	for k := range r.Tree[:cap(r.Tree)] {
		r.Tree[:cap(r.Tree)][k] = api.Vertex{Parent: mark, Level: mark}
	}
	for k := range r.Rings[:cap(r.Rings)] {
		r.Rings[:cap(r.Rings)][k] = ring.Ring{Next: mark, L: []int{mark}}
	}
	for k := range r.Shared[:cap(r.Shared)] {
		r.Shared[:cap(r.Shared)][k] = []int{mark}
	}
}

// shares tells whether two lists of Runs share anything.
func shares(r runs.Runs) bool {
	lists := rowsOf(r)
	for k, l := range lists {
		keep := slices.Clone(l)
		for at := range l {
			l[at] = mark
		}
		for at, other := range lists {
			if at != k && slices.Contains(other, mark) {
				return true
			}
		}
		copy(l, keep)
	}
	return false
}

// stands are Runs of all kinds: in which the thief 0 takes some of a ring, of a
// row, or nobody, and those that may not be.
func stands() map[string]runs.Runs {
	return map[string]runs.Runs{
		"some":        some(),
		"a full ring": with(func(r *runs.Runs) { r.Size, r.Rings[1].L = 7, []int{31, 32, 33, 34, 35, 36, 37} }),
		"next alone":  with(func(r *runs.Runs) { r.Rings[1] = ring.Ring{Next: 7} }),
		"one other":   with(func(r *runs.Runs) { r.Rings[1] = ring.Ring{L: []int{7}} }),
		"rows alone":  with(func(r *runs.Runs) { clear(r.Rings) }),
		"nobody":      with(func(r *runs.Runs) { clear(r.Rings); clear(r.Shared) }),
		"no thief":    with(func(r *runs.Runs) { r.Shared[0] = []int{2, 4} }),
		"may not be":  with(func(r *runs.Runs) { r.Size = 17 }),
		"no tree":     with(func(r *runs.Runs) { r.Tree = nil }),
		"too many": with(func(r *runs.Runs) {
			r.Rings, r.Shared = append(r.Rings, ring.Ring{L: []int{41}}), append(r.Shared, []int{42})
		}),
	}
}

// R3: what is handed in stays, also the room behind its lists, and what is told
// is shared with nothing, whoever is told, or nobody.
func TestNothingShared(t *testing.T) {
	for name, r := range stands() {
		for p := -1; p <= 6; p++ {
			for _, far := range []int{-1, 0, 1, 2, 3, 4} {
				in := roomy(r)
				keep := copied(whole(in))
				told, _, _ := steal.Steal(in, p, far)
				again, g, up := steal.Steal(in, p, far)
				if shares(told) {
					t.Fatalf("%s, %d, %d at most: two lists of %v are one", name, p, far, told)
				}
				scribble(told)
				if !same(whole(in), keep) {
					t.Fatalf("%s, %d, %d at most: %v was handed in, and is %v", name, p, far, keep, whole(in))
				}
				last, h, w := steal.Steal(in, p, far)
				if !same(last, again) || g != h || up != w {
					t.Fatalf("%s, %d, %d at most: %v, %d, %d, and again %v, %d, %d", name, p, far, again, g, up, last, h, w)
				}
				scribble(in)
				if !same(last, again) {
					t.Fatalf("%s, %d, %d at most: what was told, %v, is %v", name, p, far, again, last)
				}
			}
		}
	}
}

// R3: who comes behind those who were stolen turns nobody else.
func TestBehindBatch(t *testing.T) {
	for _, size := range []int{3, 4, 7, 16} {
		r := empty(tree("m(n(c(pp)))"), size)
		r.Rings[1] = ring.Ring{Next: 99, L: row(1, size)}
		s, _, _ := steals(t, r, 0, 1)
		keep := copied(s)
		s.Rings[0].L = append(s.Rings[0].L, mark, mark)
		if !slices.Equal(s.Rings[1].L, keep.Rings[1].L) || s.Rings[1].Next != 99 || len(s.Shared[0]) != 0 {
			t.Errorf("who came to %v turned %v", keep, s)
		}
	}
}

// R3: what Victims tells is shared with nothing, and turns nothing.
func TestVictimsShared(t *testing.T) {
	for name, r := range stands() {
		for p := -1; p <= 5; p++ {
			in := roomy(r)
			keep := copied(whole(in))
			l, again := steal.Victims(in, p, 3), steal.Victims(in, p, 3)
			for k := range l[:cap(l)] {
				l[:cap(l)][k] = mark
			}
			if last := steal.Victims(in, p, 3); !slices.Equal(last, again) || !same(whole(in), keep) {
				t.Errorf("%s, of %d: %v, and again %v, of %v, that is %v", name, p, again, last, keep, whole(in))
			}
		}
	}
}

// R4: nothing is kept: Runs that one came from can be gone on from in another
// way, and who comes to what was told comes there alone.
func TestNothingKept(t *testing.T) {
	r := empty(tree("m(n(c(pp)c(p))n(c(p)))"), 4)
	r.Rings[1] = ring.Ring{Next: 5, L: []int{1, 2, 3, 4}}
	r.Rings[3] = ring.Ring{L: []int{6, 7, 8}}
	first := copied(r)
	one, a, _ := steals(t, r, 0, 1)
	two, b, _ := steals(t, r, 2, 2)
	three, c, _ := steals(t, one, 2, 3)
	four, e := runs.Put(one, 0, 30)
	five, d, _ := steals(t, two, 0, 3)
	if e != api.OK || !slices.Equal([]int{a, b, c, d}, []int{1, 1, 2, 3}) {
		t.Errorf("told are %d, %d, %d, %d", a, b, c, d)
	}
	for k, x := range []struct {
		r    runs.Runs
		want []int
	}{
		{r, []int{5, 1, 2, 3, 4, 6, 7, 8}},
		{one, []int{2, 5, 3, 4, 6, 7, 8}},
		{two, []int{5, 3, 4, 2, 6, 7, 8}},
		{three, []int{5, 3, 4, 6, 7, 8}},
		{four, []int{30, 2, 5, 3, 4, 6, 7, 8}},
		{five, []int{5, 4, 2, 6, 7, 8}},
	} {
		if !slices.Equal(runs.All(x.r), x.want) {
			t.Errorf("%d: there stand %v, not %v", k, runs.All(x.r), x.want)
		}
	}
	if !same(r, first) {
		t.Errorf("handed in was %v, and is %v", first, r)
	}
}
