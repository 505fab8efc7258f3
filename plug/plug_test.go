package plug_test

import (
	"testing"

	"catafalque/api"
	"catafalque/bits"
	"catafalque/ring"
	"catafalque/runs"
)

// P20.1: one that isn't plugged is then, and all else stays as it was: each
// processor of each tree, the first and the last one among them, with somebody
// everywhere else, and with nobody.
func TestPlug(t *testing.T) {
	for name, x := range trees() {
		n := len(empty(x, 2).Rings)
		for p := range n {
			if n == 1 {
				continue
			}
			for _, r := range []runs.Runs{without(crowd(x), p), without(empty(x, 16), p), alone(crowd(x), (p+1)%n), alone(empty(x, 3), (p+n-1)%n)} {
				want := copied(r)
				want.On = r.On | 1<<p
				if s, e := plugs(t, r, p); e != api.OK || !same(s, want) {
					t.Errorf("%s: %d: %v, %d, not %v", name, p, s, e, want)
				}
			}
		}
	}
}

// P20.1: whoever else is plugged, p's own bit is turned alone, and it alone says
// whether that can be.
func TestPlugOn(t *testing.T) {
	x := tree("m(n(c(pp)c(p))n(c(pp)))")
	for on := bits.Set(1); on < 32; on++ {
		r := empty(x, 2)
		r.On, r.Shared = on, [][]int{{20}, {21, 22}}
		for p := range 5 {
			want, f := copied(r), api.ErrThere
			if on>>p&1 == 0 {
				want.On, f = on+1<<p, api.OK
			}
			if s, e := plugs(t, r, p); e != f || !same(s, want) {
				t.Errorf("%d, with %v plugged: %v, %d", p, on.All(), s, e)
			}
		}
	}
}

// P20.1: who is plugged has room for those that come.
func TestPlugPut(t *testing.T) {
	r := without(crowd(tree("m(n(c(pp))n(c(p)))")), 1)
	if _, e := runs.Put(r, 1, 7); e != api.ErrNone {
		t.Errorf("to one that isn't plugged: %d", e)
	}
	r, _ = plugs(t, r, 1)
	want := copied(r)
	want.Rings[1] = ring.Ring{Next: 7}
	if s, e := runs.Put(r, 1, 7); e != api.OK || !same(s, want) {
		t.Errorf("to one that is: %v, %d", s, e)
	}
}

// P20.1: one after the other is plugged, till all are; again it is ErrThere.
func TestPlugAll(t *testing.T) {
	for name, x := range trees() {
		n := len(empty(x, 2).Rings)
		r := alone(crowd(x), n/2)
		for p := range n {
			f := api.OK
			if p == n/2 {
				f = api.ErrThere
			}
			s, e := plugs(t, r, p)
			if e != f {
				t.Fatalf("%s: %d: %d", name, p, e)
			}
			if _, e = plugs(t, s, p); e != api.ErrThere {
				t.Fatalf("%s: %d again: %d", name, p, e)
			}
			r = s
		}
		if r.On != empty(x, 2).On {
			t.Errorf("%s: plugged are %v", name, r.On.All())
		}
	}
}

// P20.1: one that is plugged is ErrThere, whoever stands there, also alone.
func TestPlugThere(t *testing.T) {
	for name, x := range trees() {
		for p := range empty(x, 2).Rings {
			for _, r := range []runs.Runs{crowd(x), empty(x, 2), alone(crowd(x), p), alone(empty(x, 16), p)} {
				if s, e := plugs(t, r, p); e != api.ErrThere || !same(s, r) {
					t.Errorf("%s: %d: %v, %d", name, p, s, e)
				}
			}
		}
	}
}
