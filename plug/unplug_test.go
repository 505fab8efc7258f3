package plug_test

import (
	"math"
	"slices"
	"testing"

	"catafalque/api"
	"catafalque/bits"
	"catafalque/ring"
	"catafalque/runs"
)

// The document's example: the ring 4, 2, running 7.
func TestExample(t *testing.T) {
	r := empty(tree("m(n(c(pp)))"), 2)
	r.Rings[0] = ring.Ring{Next: 4, L: []int{2}}
	s, e := unplugs(t, r, 0, 7)
	want := copied(r)
	want.Rings[0], want.Shared[0], want.On = ring.Ring{}, []int{7, 4, 2}, bits.Of(1)
	if e != api.OK || !same(s, want) {
		t.Errorf("%v, %d", s, e)
	}
}

// P20.2: behind those in the row stand who ran, who was next, and the others of
// the ring, in turn, as far as there are such ones; all else stays as it was.
func TestUnplug(t *testing.T) {
	x := tree("m(n(c(pp)c(p))n(c(pp)))")
	for _, c := range []struct {
		size int
		x    ring.Ring
		out  []int
	}{
		{2, ring.Ring{}, nil},
		{2, ring.Ring{Next: 4}, []int{4}},
		{2, ring.Ring{L: []int{2}}, []int{2}},
		{2, ring.Ring{Next: 4, L: []int{2}}, []int{4, 2}},
		{3, ring.Ring{Next: 4, L: []int{9, 2, 6}}, []int{4, 9, 2, 6}},
		{3, ring.Ring{L: []int{9, 2, 6}}, []int{9, 2, 6}},
		{16, ring.Ring{Next: 4, L: []int{9, 2, 6}}, []int{4, 9, 2, 6}},
		{16, ring.Ring{Next: 99, L: row(1, 16)}, append([]int{99}, row(1, 16)...)},
	} {
		for p, n := range []int{0, 0, 0, 1, 1} {
			for _, rows := range [][][]int{{nil, nil}, {{50}, {51, 30}}, {{53, 52, 51}, nil}, {nil, row(100, 140)}} {
				for _, cur := range []int{0, 1000, 7} {
					if slices.Contains(c.x.L, cur) {
						continue
					}
					r := empty(x, c.size)
					for q := range r.Rings {
						r.Rings[q] = ring.Ring{Next: 200 + 10*q, L: []int{201 + 10*q}}
					}
					r.Rings[p], r.Shared = c.x, rows
					want := copied(r)
					want.Rings[p], want.On = ring.Ring{}, bits.Of(0, 1, 2, 3, 4).Without(p)
					if cur != 0 {
						want.Shared[n] = append(want.Shared[n], cur)
					}
					want.Shared[n] = append(want.Shared[n], c.out...)
					if s, e := unplugs(t, r, p, cur); e != api.OK || !same(s, want) {
						t.Errorf("%d, of %v, running %d: %v, %d, not %v", p, r, cur, s, e, want)
					}
				}
			}
		}
	}
}

// P20.2: each processor of each tree, the first and the last one among them, with
// a full ring, with an empty one, one of two plugged ones, and with nobody
// anywhere; running nobody, 1, another one, and the greatest int.
func TestUnplugEach(t *testing.T) {
	for name, x := range trees() {
		n := len(empty(x, 2).Rings)
		for p := range n {
			if n == 1 {
				continue
			}
			here := node(x, p)
			emptied := crowd(x)
			emptied.Rings[p] = ring.Ring{}
			two := alone(crowd(x), p)
			two.On |= 1 << ((p + 1) % n)
			for _, r := range []runs.Runs{crowd(x), emptied, two, empty(x, 2), empty(x, 16)} {
				for _, cur := range []int{0, 1, 7, 64, math.MaxInt} {
					want := copied(r)
					want.On -= 1 << p
					want.Rings[p] = ring.Ring{}
					if cur > 0 {
						want.Shared[here] = append(want.Shared[here], cur)
					}
					want.Shared[here] = append(want.Shared[here], ring.All(r.Rings[p])...)
					if s, e := unplugs(t, r, p, cur); e != api.OK || !same(s, want) {
						t.Errorf("%s: %d, running %d: %v, %d", name, p, cur, s, e)
					}
				}
			}
		}
	}
}

// P20.2: p's own bit is turned alone, whoever else is plugged; without it, it is
// ErrNone, and as the only one ErrLast.
func TestUnplugOn(t *testing.T) {
	x := tree("m(n(c(pp)c(p))n(c(pp)))")
	for on := bits.Set(1); on < 32; on++ {
		r := empty(x, 2)
		r.On, r.Shared = on, [][]int{{20}, {21, 22}}
		for p, n := range []int{0, 0, 0, 1, 1} {
			want, f := copied(r), api.OK
			switch {
			case on>>p&1 == 0:
				f = api.ErrNone
			case on == 1<<p:
				f = api.ErrLast
			default:
				want.On = on - 1<<p
				want.Shared[n] = append(want.Shared[n], 5)
			}
			if s, e := unplugs(t, r, p, 5); e != f || !same(s, want) {
				t.Errorf("%d, with %v plugged: %v, %d", p, on.All(), s, e)
			}
		}
	}
}

// P20.3: unplugged and plugged again, all stand where they stood, but those of
// the ring, and who ran: they stand in the row.
func TestPluggedAgain(t *testing.T) {
	for name, x := range trees() {
		n := len(empty(x, 2).Rings)
		for p := range n {
			if n == 1 {
				continue
			}
			for _, cur := range []int{0, 7} {
				r := crowd(x)
				off, e := unplugs(t, r, p, cur)
				on, f := plugs(t, off, p)
				if e != api.OK || f != api.OK {
					t.Fatalf("%s: %d: %d, %d", name, p, e, f)
				}
				here := node(x, p)
				for _, g := range runs.All(r) {
					was, at := runs.Where(r, g)
					if was == p {
						was, at = -1, here
					}
					if is, now := runs.Where(on, g); is != was || now != at {
						t.Errorf("%s: %d: %d stands at %d, %d, not %d, %d", name, p, g, is, now, was, at)
					}
				}
				want := copied(r)
				want.Rings[p], want.Shared[here] = ring.Ring{}, slices.Clone(off.Shared[here])
				if !same(on, want) {
					t.Errorf("%s: %d: %v, not %v", name, p, on, want)
				}
			}
		}
	}
}

// P20.2, P20.3: one after the other is unplugged, till one is left: that one
// stays, and nobody is lost.
func TestUnplugAll(t *testing.T) {
	for name, x := range trees() {
		r := crowd(x)
		all := runs.All(r)
		last := len(r.Rings) - 1
		for p := range last {
			s, e := unplugs(t, r, p, 500+p)
			if e != api.OK {
				t.Fatalf("%s: %d: %d", name, p, e)
			}
			all = append(all, 500+p)
			if _, e = unplugs(t, s, p, 0); e != api.ErrNone {
				t.Fatalf("%s: %d again: %d", name, p, e)
			}
			r = s
		}
		if s, e := unplugs(t, r, last, 600); e != api.ErrLast || !same(s, r) {
			t.Errorf("%s: the last one, %d: %v, %d", name, last, s, e)
		}
		if r.On != 1<<last || !slices.Equal(sorted(runs.All(r)), sorted(all)) {
			t.Errorf("%s: %v", name, r)
		}
	}
}

// P20.3: whoever is plugged and unplugged, with whoever running, with some put
// in between, nobody is lost, and one at least is plugged.
func TestMany(t *testing.T) {
	for seed := range 40 {
		m := mixer(seed)
		x := [][]api.Vertex{tree("m(n(c(pp)c(p)))"), tree("m(n(c(pp)c(p))n(c(pp)))"), mixed(), tree("m(n(c(p)c(p))n(c(pp))n(c(p))n(c(p)))")}[seed%4]
		r := empty(x, 2+m.below(15))
		told := map[api.Errno]int{}
		many := 0
		for range 200 {
			p := m.below(len(r.Rings))
			var e api.Errno
			switch m.below(4) {
			case 0:
				r, e = plugs(t, r, p)
			case 1:
				r, e = unplugs(t, r, p, 0)
			case 2:
				if r, e = unplugs(t, r, p, many+1); e == api.OK {
					many++
				}
			default:
				s, f := runs.Put(r, p, many+1)
				if r = s; f == api.OK {
					many++
				}
			}
			told[e]++
			if !runs.May(r) || !slices.Equal(sorted(runs.All(r)), row(1, many)) {
				t.Fatalf("with %d they are %v", many, r)
			}
		}
		if told[api.OK] == 0 || told[api.ErrNone] == 0 || told[api.ErrThere] == 0 {
			t.Errorf("told are %v", told)
		}
	}
}
