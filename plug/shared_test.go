package plug_test

import (
	"slices"
	"testing"

	"catafalque/api"
	"catafalque/bits"
	"catafalque/plug"
	"catafalque/ring"
	"catafalque/runs"
)

// mark is what is written over others.
const mark = -77

// roomy are the same Runs, with room behind each list, in which others stand.
func roomy(r runs.Runs) runs.Runs {
	s := copied(r)
	s.Tree = append(s.Tree, api.Vertex{Parent: 60, Level: 60})[:len(s.Tree)]
	s.Rings = append(s.Rings, ring.Ring{Next: 61, L: []int{62}})[:len(s.Rings)]
	for p := range s.Rings {
		s.Rings[p].L = append(s.Rings[p].L, 63, 64, 65)[:len(s.Rings[p].L)]
	}
	s.Shared = append(s.Shared, []int{66})[:len(s.Shared)]
	for n := range s.Shared {
		s.Shared[n] = append(s.Shared[n], 67, 68, 69)[:len(s.Shared[n])]
	}
	return s
}

// whole are Runs, with what stands in the room behind their lists.
func whole(r runs.Runs) runs.Runs {
	r.Tree = r.Tree[:cap(r.Tree)]
	r.Rings = slices.Clone(r.Rings[:cap(r.Rings)])
	for p, x := range r.Rings {
		r.Rings[p].L = x.L[:cap(x.L)]
	}
	r.Shared = slices.Clone(r.Shared[:cap(r.Shared)])
	for n, row := range r.Shared {
		r.Shared[n] = row[:cap(row)]
	}
	return r
}

// rowsOf are all lists of numbers of Runs, whole.
func rowsOf(r runs.Runs) [][]int {
	r = whole(r)
	l := slices.Clone(r.Shared)
	for _, x := range r.Rings {
		l = append(l, x.L)
	}
	return l
}

// scribble writes over all that Runs have, and over the room behind it.
func scribble(r runs.Runs) {
	for _, l := range rowsOf(r) {
		for k := range l {
			l[k] = mark
		}
	}
	for k := range r.Tree[:cap(r.Tree)] {
		r.Tree[:cap(r.Tree)][k] = api.Vertex{Parent: mark, Level: mark}
	}
	for k := range r.Rings[:cap(r.Rings)] {
		r.Rings[:cap(r.Rings)][k] = ring.Ring{Next: mark, L: []int{mark}}
	}
	for k := range r.Shared[:cap(r.Shared)] {
		r.Shared[:cap(r.Shared)][k] = []int{mark}
	}
}

// shares tells whether two lists of Runs share anything.
func shares(r runs.Runs) bool {
	lists := rowsOf(r)
	for k, l := range lists {
		keep := slices.Clone(l)
		for at := range l {
			l[at] = mark
		}
		for at, other := range lists {
			if at != k && slices.Contains(other, mark) {
				return true
			}
		}
		copy(l, keep)
	}
	return false
}

// stands are Runs of all kinds: in which there are some to go to the row, and
// none, and those that may not be.
func stands() map[string]runs.Runs {
	return map[string]runs.Runs{
		"some":        some(),
		"a full ring": with(func(r *runs.Runs) { r.Rings[0].L = []int{9, 2, 40} }),
		"no rows yet": with(func(r *runs.Runs) { clear(r.Shared) }),
		"nobody":      with(func(r *runs.Runs) { clear(r.Rings); clear(r.Shared) }),
		"one alone":   alone(some(), 1),
		"may not be":  with(func(r *runs.Runs) { r.Size = 17 }),
		"no tree":     with(func(r *runs.Runs) { r.Tree = nil }),
		"too many": with(func(r *runs.Runs) {
			r.Rings, r.Shared = append(r.Rings, ring.Ring{L: []int{41}}), append(r.Shared, []int{42})
		}),
	}
}

// calls are Plug, and Unplug of who runs in some ways.
func calls() map[string]func(r runs.Runs, p int) (runs.Runs, api.Errno) {
	off := func(cur int) func(r runs.Runs, p int) (runs.Runs, api.Errno) {
		return func(r runs.Runs, p int) (runs.Runs, api.Errno) { return plug.Unplug(r, p, cur) }
	}
	return map[string]func(r runs.Runs, p int) (runs.Runs, api.Errno){
		"Plug":                         plug.Plug,
		"Unplug, running nobody":       off(0),
		"Unplug, running 30":           off(30),
		"Unplug, running 8, in a row":  off(8),
		"Unplug, running one below 0":  off(-1),
		"Unplug, running 67, as room":  off(67),
		"Unplug, running 9, in a ring": off(9),
	}
}

// R3: what is handed in stays, also the room behind its lists, and what is told
// is shared with nothing, with an error, too.
func TestNothingShared(t *testing.T) {
	for name, r := range stands() {
		for does, call := range calls() {
			for p := -1; p <= 6; p++ {
				in := roomy(r)
				keep := copied(whole(in))
				told, _ := call(in, p)
				again, e := call(in, p)
				if shares(told) {
					t.Fatalf("%s, %s of %d: two lists of %v are one", name, does, p, told)
				}
				scribble(told)
				if !same(whole(in), keep) {
					t.Fatalf("%s, %s of %d: %v was handed in, and is %v", name, does, p, keep, whole(in))
				}
				last, f := call(in, p)
				if !same(last, again) || e != f {
					t.Fatalf("%s, %s of %d: %v, %d, and again %v, %d", name, does, p, again, e, last, f)
				}
				scribble(in)
				if !same(last, again) {
					t.Fatalf("%s, %s of %d: what was told, %v, is %v", name, does, p, again, last)
				}
			}
		}
	}
}

// R3: who comes to what was told turns nobody else: neither those who went to the
// row, nor those who stand in the other rings and rows.
func TestBehindRow(t *testing.T) {
	for long := range 17 {
		r := empty(tree("m(n(c(pp))n(c(p)))"), 16)
		r.Rings = []ring.Ring{{Next: 60, L: row(1, long)}, {Next: 61, L: []int{62}}, {Next: 63}}
		r.Shared = [][]int{{64, 65}, {66}}
		s, e := unplugs(t, roomy(r), 0, 70)
		if e != api.OK {
			t.Fatalf("%v: %d", r, e)
		}
		want := copied(s)
		s.Rings[0].L = append(s.Rings[0].L, mark, mark)
		s.Shared[1] = append(s.Shared[1], mark, mark)
		s.Shared[0] = append(s.Shared[0], mark)
		want.Rings[0].L = []int{mark, mark}
		want.Shared[1] = []int{66, mark, mark}
		want.Shared[0] = append([]int{64, 65, 70, 60}, append(row(1, long), mark)...)
		if !same(s, want) {
			t.Errorf("who came turned %v to %v", want, s)
		}
	}
}

// R4: nothing is kept: Runs that one came from can be gone on from in another
// way, and who comes to what was told comes there alone.
func TestNothingKept(t *testing.T) {
	r := empty(tree("m(n(c(pp))n(c(p)))"), 2)
	r.Rings[0] = ring.Ring{Next: 5, L: []int{1, 2}}
	r.Shared[0] = []int{3}
	first := copied(r)
	one, a := unplugs(t, r, 0, 6)
	two, b := unplugs(t, r, 0, 7)
	three, c := unplugs(t, one, 1, 8)
	four, d := unplugs(t, one, 1, 9)
	five, f := plugs(t, one, 0)
	put, e := runs.Put(five, 0, 9)
	if !slices.Equal([]api.Errno{a, b, c, d, e, f}, make([]api.Errno, 6)) {
		t.Fatalf("told are %d, %d, %d, %d, %d, %d", a, b, c, d, e, f)
	}
	for k, x := range []struct {
		r    runs.Runs
		on   bits.Set
		want []int
	}{
		{r, bits.Of(0, 1, 2), []int{5, 1, 2, 3}},
		{one, bits.Of(1, 2), []int{3, 6, 5, 1, 2}},
		{two, bits.Of(1, 2), []int{3, 7, 5, 1, 2}},
		{three, bits.Of(2), []int{3, 6, 5, 1, 2, 8}},
		{four, bits.Of(2), []int{3, 6, 5, 1, 2, 9}},
		{five, bits.Of(0, 1, 2), []int{3, 6, 5, 1, 2}},
		{put, bits.Of(0, 1, 2), []int{9, 3, 6, 5, 1, 2}},
	} {
		if l := runs.All(x.r); !slices.Equal(l, x.want) || x.r.On != x.on {
			t.Errorf("%d: there stand %v, with %v plugged", k, l, x.r.On.All())
		}
	}
	if !same(r, first) {
		t.Errorf("handed in was %v, and is %v", first, r)
	}
}
