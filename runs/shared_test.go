package runs_test

import (
	"slices"
	"testing"

	"catafalque/api"
	"catafalque/ring"
	"catafalque/runs"
)

// mark is what is written over others.
const mark = -77

// roomy are the same Runs, with room behind each list, in which others stand.
func roomy(r runs.Runs) runs.Runs {
	s := copied(r)
	s.Tree = append(s.Tree, api.Vertex{Parent: 60, Level: 60})[:len(s.Tree)]
	s.Rings = append(s.Rings, ring.Ring{Next: 61, L: []int{62}})[:len(s.Rings)]
	for p := range s.Rings {
		s.Rings[p].L = append(s.Rings[p].L, 63, 64, 65)[:len(s.Rings[p].L)]
	}
	s.Shared = append(s.Shared, []int{66})[:len(s.Shared)]
	for n := range s.Shared {
		s.Shared[n] = append(s.Shared[n], 67, 68, 69)[:len(s.Shared[n])]
	}
	return s
}

// whole are Runs, with what stands in the room behind their lists.
func whole(r runs.Runs) runs.Runs {
	r.Tree = r.Tree[:cap(r.Tree)]
	r.Rings = slices.Clone(r.Rings[:cap(r.Rings)])
	for p, x := range r.Rings {
		r.Rings[p].L = x.L[:cap(x.L)]
	}
	r.Shared = slices.Clone(r.Shared[:cap(r.Shared)])
	for n, row := range r.Shared {
		r.Shared[n] = row[:cap(row)]
	}
	return r
}

// rowsOf are all lists of numbers of Runs, whole.
func rowsOf(r runs.Runs) [][]int {
	r = whole(r)
	l := slices.Clone(r.Shared)
	for _, x := range r.Rings {
		l = append(l, x.L)
	}
	return l
}

// scribble writes over all that Runs have, and over the room behind it.
func scribble(r runs.Runs) {
	for _, l := range rowsOf(r) {
		for k := range l {
			l[k] = mark
		}
	}
	for k := range r.Tree[:cap(r.Tree)] {
		r.Tree[:cap(r.Tree)][k] = api.Vertex{Parent: mark, Level: mark}
	}
	for k := range r.Rings[:cap(r.Rings)] {
		r.Rings[:cap(r.Rings)][k] = ring.Ring{Next: mark, L: []int{mark}}
	}
	for k := range r.Shared[:cap(r.Shared)] {
		r.Shared[:cap(r.Shared)][k] = []int{mark}
	}
}

// apart tells whether no two lists of Runs share anything.
func apart(r runs.Runs) bool {
	lists := rowsOf(r)
	for k, l := range lists {
		keep := slices.Clone(l)
		for at := range l {
			l[at] = mark
		}
		for at, other := range lists {
			if at != k && slices.Contains(other, mark) {
				return false
			}
		}
		copy(l, keep)
	}
	return true
}

// R3: what is handed in stays, also the room behind its lists, and what is told
// is shared with nothing, whatever is told.
func TestNothingShared(t *testing.T) {
	for name, r := range map[string]runs.Runs{
		"some":       some(),
		"full":       with(func(r *runs.Runs) { r.Rings[0].L = []int{9, 2, 40} }),
		"may not be": with(func(r *runs.Runs) { r.Size = 17 }),
		"too many": with(func(r *runs.Runs) {
			r.Rings, r.Shared = append(r.Rings, ring.Ring{L: []int{41}}), append(r.Shared, []int{42})
		}),
		"no tree": with(func(r *runs.Runs) { r.Tree = nil }),
	} {
		for place := -1; place <= 6; place++ {
			for _, g := range []int{30, 4, 8, 0} {
				for _, call := range []func(r runs.Runs, place, g int) (runs.Runs, api.Errno){runs.Put, runs.Push} {
					in := roomy(r)
					keep := copied(whole(in))
					told, _ := call(in, place, g)
					again, _ := call(in, place, g)
					if !apart(told) {
						t.Fatalf("%s, %d to %d: two lists of %v are one", name, g, place, told)
					}
					scribble(told)
					if !same(whole(in), keep) {
						t.Fatalf("%s, %d to %d: %v was handed in, and is %v", name, g, place, keep, whole(in))
					}
					if last, _ := call(in, place, g); !same(last, again) {
						t.Fatalf("%s, %d to %d: %v, and again %v", name, g, place, again, last)
					}
				}
			}
		}
	}
}

// R3: what is asked of Runs leaves them, and is shared with nothing.
func TestAskedOnly(t *testing.T) {
	r := roomy(some())
	keep := copied(whole(r))
	l := runs.All(r)
	l = l[:cap(l)]
	for k := range l {
		l[k] = mark
	}
	runs.May(r)
	for g := -1; g <= 70; g++ {
		runs.Where(r, g)
	}
	if !same(whole(r), keep) {
		t.Errorf("%v is %v now", keep, whole(r))
	}
	if l := runs.All(r); !slices.Equal(l, all(some())) {
		t.Errorf("All is %v", l)
	}
	// Of one list alone, too.
	r = runs.Runs{Shared: [][]int{{1, 2, 3}}}
	runs.All(r)[0] = mark
	s := runs.Runs{Rings: []ring.Ring{{L: []int{1, 2, 3}}}}
	runs.All(s)[0] = mark
	if r.Shared[0][0] != 1 || s.Rings[0].L[0] != 1 {
		t.Errorf("what All tells is %v, and %v", r.Shared, s.Rings)
	}
}

// R3: a tree that is handed in stays, and turned later it turns nothing.
func TestNewShared(t *testing.T) {
	x := append(tree([]int{2}, []int{2}), api.Vertex{Parent: 60, Level: 60})
	in := x[:len(x)-1]
	keep := slices.Clone(x)
	r := made(t, in, 2)
	s := made(t, in, 2)
	if !apart(r) {
		t.Errorf("two lists of %v are one", r)
	}
	scribble(r)
	if !slices.Equal(x, keep) {
		t.Errorf("the tree is %v", x)
	}
	clear(x)
	if !slices.Equal(s.Tree, keep[:len(keep)-1]) || !runs.May(s) {
		t.Errorf("the Runs are %v", s)
	}
}

// R4: nothing is kept: asked again, each call tells the same, and Runs that one
// came from can be gone on from in another way.
func TestNothingKept(t *testing.T) {
	r := made(t, tree([]int{2}, []int{2}), 2)
	for g := 1; g <= 3; g++ {
		r = puts(t, r, 1, g)
	}
	keep := copied(r)
	one, two := puts(t, r, 1, 4), puts(t, r, 1, 5)
	three, four := pushes(t, one, 0, 6), pushes(t, one, 0, 7)
	puts(t, two, 1, 8)
	for _, c := range []struct {
		r    runs.Runs
		next int
		row  []int
	}{{r, 3, nil}, {one, 4, []int{1, 3}}, {two, 5, []int{1, 3}}, {three, 4, []int{1, 3, 6}}, {four, 4, []int{1, 3, 7}}} {
		if c.r.Rings[1].Next != c.next || !slices.Equal(c.r.Shared[0], c.row) {
			t.Errorf("%v: next is %d, in the row stand %v", c.r, c.next, c.row)
		}
	}
	if !same(r, keep) {
		t.Errorf("%v is %v now", keep, r)
	}
	if s := made(t, tree([]int{2}, []int{2}), 2); len(runs.All(s)) != 0 {
		t.Errorf("in new Runs stand %v", runs.All(s))
	}
}
