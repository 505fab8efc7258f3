package place_test

import (
	"math"
	"slices"
	"testing"

	"catafalque/api"
	"catafalque/bits"
	"catafalque/ring"
	"catafalque/runs"
)

// P18.1: of a plugged processor: who is ready is next there, who was next is
// behind the others, and those that have no room stand in the row of its node.
func TestReadyPlugged(t *testing.T) {
	for _, c := range []struct {
		size    int
		x, want ring.Ring
		out     []int
	}{
		{2, ring.Ring{}, ring.Ring{Next: 99}, nil},
		{2, ring.Ring{Next: 1}, ring.Ring{Next: 99, L: []int{1}}, nil},
		{2, ring.Ring{L: []int{5}}, ring.Ring{Next: 99, L: []int{5}}, nil},
		{2, ring.Ring{L: []int{5, 4}}, ring.Ring{Next: 99, L: []int{5, 4}}, nil},
		{2, ring.Ring{Next: 1, L: []int{5}}, ring.Ring{Next: 99, L: []int{5, 1}}, nil},
		{2, ring.Ring{Next: 1, L: []int{5, 4}}, ring.Ring{Next: 99, L: []int{4}}, []int{5, 1}},
		{3, ring.Ring{Next: 1, L: []int{5, 4}}, ring.Ring{Next: 99, L: []int{5, 4, 1}}, nil},
		{3, ring.Ring{Next: 1, L: []int{5, 4, 7}}, ring.Ring{Next: 99, L: []int{4, 7}}, []int{5, 1}},
		{4, ring.Ring{Next: 1, L: []int{5, 4, 7, 6}}, ring.Ring{Next: 99, L: []int{7, 6}}, []int{5, 4, 1}},
		{16, ring.Ring{Next: 50, L: row(1, 15)}, ring.Ring{Next: 99, L: append(row(1, 15), 50)}, nil},
		{16, ring.Ring{Next: 50, L: row(1, 16)}, ring.Ring{Next: 99, L: row(9, 16)}, append(row(1, 8), 50)},
	} {
		r := empty(tree("m(n(c(pp)c(p))n(c(pp)))"), c.size)
		r.Shared = [][]int{{20, 21}, {22}}
		for p, n := range []int{0, 0, 0, 1, 1} {
			in := copied(r)
			in.Rings[p] = c.x
			want := copied(in)
			want.Rings[p] = c.want
			want.Shared[n] = append(want.Shared[n], c.out...)
			if s, e := readies(t, in, p, 99); e != api.OK || !same(s, want) {
				t.Errorf("to %d, at %v of the size %d: %v, %d", p, c.x, c.size, s, e)
			}
			if put, e := runs.Put(in, p, 99); e != api.OK || !same(put, want) {
				t.Errorf("Put to %d, at %v of the size %d: %v, %d", p, c.x, c.size, put, e)
			}
		}
	}
}

// P18.1: of one that isn't plugged: who is ready stands last in the row of its
// node, and nowhere else.
func TestReadyUnplugged(t *testing.T) {
	for name, x := range trees() {
		for p := range ways(x) {
			if len(ways(x)) == 1 {
				continue
			}
			for _, r := range []runs.Runs{unplugged(crowd(x), p), unplugged(empty(x, 16), p)} {
				n := node(x, p)
				want := copied(r)
				want.Shared[n] = append(want.Shared[n], 7)
				if s, e := readies(t, r, p, 7); e != api.OK || !same(s, want) {
					t.Errorf("%s: to %d: %v, %d", name, p, s, e)
				}
				if pushed, e := runs.Push(r, n, 7); e != api.OK || !same(pushed, want) {
					t.Errorf("%s: Push to %d: %v, %d", name, n, pushed, e)
				}
			}
		}
	}
}

// P18.1: each processor of each tree, plugged, alone or with all others, with g
// of 1 and of the greatest int.
func TestReadyEach(t *testing.T) {
	for name, x := range trees() {
		for p := range ways(x) {
			full, alone := crowd(x), empty(x, 2)
			alone.On = bits.Of(p)
			for _, g := range []int{1, 2, 64, math.MaxInt} {
				want := copied(full)
				want.Rings[p] = ring.Ring{Next: g, L: []int{10*p + 12}}
				n := node(x, p)
				want.Shared[n] = append(want.Shared[n], 10*p+11, 10*p+10)
				if s, e := readies(t, full, p, g); e != api.OK || !same(s, want) {
					t.Errorf("%s: %d to %d: %v, %d", name, g, p, s, e)
				}
				want = copied(alone)
				want.Rings[p].Next = g
				if s, e := readies(t, alone, p, g); e != api.OK || !same(s, want) {
					t.Errorf("%s: %d to %d alone: %v, %d", name, g, p, s, e)
				}
			}
		}
	}
}

// P18.1: p's own bit alone says where, not those of others of its core, or node.
func TestReadyOn(t *testing.T) {
	x := tree("m(n(c(pp)c(p))n(c(pp)))")
	for on := bits.Set(1); on < 32; on++ {
		r := empty(x, 2)
		r.On, r.Shared = on, [][]int{{20}, {21}}
		for p, n := range []int{0, 0, 0, 1, 1} {
			want := copied(r)
			if on>>p&1 == 1 {
				want.Rings[p].Next = 5
			} else {
				want.Shared[n] = append(want.Shared[n], 5)
			}
			if s, e := readies(t, r, p, 5); e != api.OK || !same(s, want) {
				t.Errorf("to %d, with %v plugged: %v, %d", p, on.All(), s, e)
			}
		}
	}
}

// P18.1: of one that stands there already what Put, or Push, tells: ErrThere,
// wherever it stands, and the Runs as they were.
func TestReadyThere(t *testing.T) {
	for name, x := range trees() {
		for p := range ways(x) {
			cases := []runs.Runs{crowd(x)}
			if len(ways(x)) > 1 {
				cases = append(cases, unplugged(crowd(x), p))
			}
			for k, r := range cases {
				for _, g := range runs.All(r) {
					s, e := readies(t, r, p, g)
					if e != api.ErrThere || !same(s, r) {
						t.Fatalf("%s: %d to %d: %v, %d", name, g, p, s, e)
					}
					want, f := runs.Put(r, p, g)
					if k == 1 {
						want, f = runs.Push(r, node(x, p), g)
					}
					if e != f || !same(s, want) {
						t.Fatalf("%s: %d to %d: %v, %d, not %v, %d", name, g, p, s, e, want, f)
					}
				}
			}
		}
	}
}

// P18.1, P18.3: one after the other is ready, at whatever processor, and all
// stand then where the rings, and the row of those that aren't plugged, have
// them.
func TestReadyAgain(t *testing.T) {
	r := empty(tree("m(n(c(pp))n(c(p)))"), 2)
	r.On = bits.Of(0, 2)
	want := copied(r)
	want.Rings = []ring.Ring{{Next: 9, L: []int{2, 5}}, {}, {Next: 11, L: []int{8}}}
	want.Shared = [][]int{{3, 1, 4, 7, 12}, {6, 10}}
	for k, p := range []int{0, 0, 1, 0, 0, 2, 1, 2, 0, 2, 2, 1} {
		var e api.Errno
		if r, e = readies(t, r, p, k+1); e != api.OK {
			t.Fatalf("%d to %d: %d", k+1, p, e)
		}
	}
	if !same(r, want) {
		t.Errorf("they are %v, not %v", r, want)
	}
}

// P18.1, P18.3: whoever is ready, of Runs of all kinds, nobody is lost.
func TestReadyMany(t *testing.T) {
	for seed := range 30 {
		m := mixer(seed)
		x := [][]api.Vertex{tree("m(n(c(pp)c(p)))"), tree("m(n(c(pp)c(p))n(c(pp)))"), mixed(), tree("m(n(c(p)c(p))n(c(pp))n(c(p))n(c(p)))")}[seed%4]
		r := empty(x, 2+m.below(15))
		for p := range r.Rings {
			if p > 0 && m.below(3) == 0 {
				r.On = r.On.Without(p)
			}
		}
		for g := 1; g <= 120; g++ {
			s, e := readies(t, r, m.below(len(r.Rings)), g)
			if e != api.OK {
				t.Fatalf("%d of %v: %d", g, r, e)
			}
			if r = s; !slices.Equal(sorted(runs.All(r)), row(1, g)) {
				t.Fatalf("with %d there stand %v", g, runs.All(r))
			}
			if _, e := readies(t, r, m.below(len(r.Rings)), 1+m.below(g)); e != api.ErrThere {
				t.Fatalf("one who stands there: %d", e)
			}
		}
	}
}
