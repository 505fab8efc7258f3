package place_test

import (
	"slices"
	"testing"

	"catafalque/api"
	"catafalque/bits"
	"catafalque/place"
	"catafalque/ring"
	"catafalque/runs"
)

// mark is what is written over others.
const mark = -77

// roomy are the same Runs, with room behind each list, in which others stand.
func roomy(r runs.Runs) runs.Runs {
	s := copied(r)
	s.Tree = append(s.Tree, api.Vertex{Parent: 60, Level: 60})[:len(s.Tree)]
	s.Rings = append(s.Rings, ring.Ring{Next: 61, L: []int{62}})[:len(s.Rings)]
	for p := range s.Rings {
		s.Rings[p].L = append(s.Rings[p].L, 63, 64, 65)[:len(s.Rings[p].L)]
	}
	s.Shared = append(s.Shared, []int{66})[:len(s.Shared)]
	for n := range s.Shared {
		s.Shared[n] = append(s.Shared[n], 67, 68, 69)[:len(s.Shared[n])]
	}
	return s
}

// whole are Runs, with what stands in the room behind their lists.
func whole(r runs.Runs) runs.Runs {
	r.Tree = r.Tree[:cap(r.Tree)]
	r.Rings = slices.Clone(r.Rings[:cap(r.Rings)])
	for p, x := range r.Rings {
		r.Rings[p].L = x.L[:cap(x.L)]
	}
	r.Shared = slices.Clone(r.Shared[:cap(r.Shared)])
	for n, row := range r.Shared {
		r.Shared[n] = row[:cap(row)]
	}
	return r
}

// rowsOf are all lists of numbers of Runs, whole.
func rowsOf(r runs.Runs) [][]int {
	r = whole(r)
	l := slices.Clone(r.Shared)
	for _, x := range r.Rings {
		l = append(l, x.L)
	}
	return l
}

// scribble writes over all that Runs have, and over the room behind it.
func scribble(r runs.Runs) {
	for _, l := range rowsOf(r) {
		for k := range l {
			l[k] = mark
		}
	}
	for k := range r.Tree[:cap(r.Tree)] {
		r.Tree[:cap(r.Tree)][k] = api.Vertex{Parent: mark, Level: mark}
	}
	for k := range r.Rings[:cap(r.Rings)] {
		r.Rings[:cap(r.Rings)][k] = ring.Ring{Next: mark, L: []int{mark}}
	}
	for k := range r.Shared[:cap(r.Shared)] {
		r.Shared[:cap(r.Shared)][k] = []int{mark}
	}
}

// shares tells whether two lists of Runs share anything.
func shares(r runs.Runs) bool {
	lists := rowsOf(r)
	for k, l := range lists {
		keep := slices.Clone(l)
		for at := range l {
			l[at] = mark
		}
		for at, other := range lists {
			if at != k && slices.Contains(other, mark) {
				return true
			}
		}
		copy(l, keep)
	}
	return false
}

// stands are Runs of all kinds: in which there is room, and none, and those that
// may not be.
func stands() map[string]runs.Runs {
	return map[string]runs.Runs{
		"some":        some(),
		"a full ring": with(func(r *runs.Runs) { r.Rings[0].L = []int{9, 2, 40} }),
		"nobody":      with(func(r *runs.Runs) { clear(r.Rings); clear(r.Shared) }),
		"may not be":  with(func(r *runs.Runs) { r.Size = 17 }),
		"no tree":     with(func(r *runs.Runs) { r.Tree = nil }),
		"too many": with(func(r *runs.Runs) {
			r.Rings, r.Shared = append(r.Rings, ring.Ring{L: []int{41}}), append(r.Shared, []int{42})
		}),
	}
}

// R3: what is handed in stays, also the room behind its lists, and what is told
// is shared with nothing, with an error, too.
func TestNothingShared(t *testing.T) {
	for name, r := range stands() {
		for p := -1; p <= 6; p++ {
			for _, g := range []int{30, 4, 8, 0} {
				in := roomy(r)
				keep := copied(whole(in))
				told, _ := place.Ready(in, p, g)
				again, e := place.Ready(in, p, g)
				if shares(told) {
					t.Fatalf("%s, %d to %d: two lists of %v are one", name, g, p, told)
				}
				scribble(told)
				if !same(whole(in), keep) {
					t.Fatalf("%s, %d to %d: %v was handed in, and is %v", name, g, p, keep, whole(in))
				}
				last, f := place.Ready(in, p, g)
				if !same(last, again) || e != f {
					t.Fatalf("%s, %d to %d: %v, %d, and again %v, %d", name, g, p, again, e, last, f)
				}
				scribble(in)
				if !same(last, again) {
					t.Fatalf("%s, %d to %d: what was told, %v, is %v", name, g, p, again, last)
				}
			}
		}
	}
}

// R3: Wake turns nothing, and tells the same again.
func TestWakeShared(t *testing.T) {
	for name, r := range stands() {
		for p := -1; p <= 6; p++ {
			for _, idle := range []bits.Set{0, bits.Of(0, 2), bits.Of(4, 5, 63), all} {
				in := roomy(r)
				keep := copied(whole(in))
				q := place.Wake(in, idle, p)
				if again := place.Wake(in, idle, p); again != q || !same(whole(in), keep) {
					t.Errorf("%s, of %d, idle %v: %d, and again %d, of %v, that is %v", name, p, idle.All(), q, again, keep, whole(in))
				}
			}
		}
	}
}

// R4: nothing is kept: Runs that one came from can be gone on from in another
// way, and who is ready there stands there alone.
func TestNothingKept(t *testing.T) {
	r := empty(tree("m(n(c(pp))n(c(p)))"), 2)
	r.Rings[0] = ring.Ring{Next: 5, L: []int{1, 2}}
	r.On = r.On.Without(1)
	first := copied(r)
	one, _ := readies(t, r, 0, 6)
	two, _ := readies(t, r, 0, 7)
	three, _ := readies(t, one, 1, 8)
	four, _ := readies(t, one, 1, 9)
	five, _ := readies(t, two, 2, 8)
	for k, c := range []struct {
		r    runs.Runs
		want []int
	}{
		{r, []int{5, 1, 2}},
		{one, []int{6, 2, 1, 5}},
		{two, []int{7, 2, 1, 5}},
		{three, []int{6, 2, 1, 5, 8}},
		{four, []int{6, 2, 1, 5, 9}},
		{five, []int{7, 2, 8, 1, 5}},
	} {
		if l := runs.All(c.r); !slices.Equal(l, c.want) {
			t.Errorf("%d: there stand %v, not %v", k, l, c.want)
		}
	}
	if !same(r, first) {
		t.Errorf("handed in was %v, and is %v", first, r)
	}
	if place.Wake(r, bits.Of(0, 2), 1) != 0 || place.Wake(r, bits.Of(2), 1) != 2 || place.Wake(r, bits.Of(0, 2), 1) != 0 {
		t.Errorf("who is woken hangs on who was")
	}
}
