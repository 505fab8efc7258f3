package place_test

import (
	"slices"
	"testing"

	"catafalque/api"
	"catafalque/bits"
	"catafalque/place"
	"catafalque/runs"
)

// all are all numbers that a Set may have.
const all = bits.Set(1<<64 - 1)

// The document's example: P 0 isn't idle, P 1, of its core, is.
func TestExample(t *testing.T) {
	r := empty(tree("m(n(c(pp)))"), 2)
	if q := wakes(t, r, bits.Of(1), 0); q != 1 {
		t.Errorf("woken is %d", q)
	}
}

// P18.2: one that is idle and plugged is woken itself, whoever else is.
func TestWakeSelf(t *testing.T) {
	for name, x := range trees() {
		r := crowd(x)
		for p := range r.Rings {
			alone := empty(x, 2)
			alone.On = bits.Of(p)
			for _, idle := range []bits.Set{bits.Of(p), bits.Of(p, 63), bits.Of(p, 0), bits.Of(p, p+1, p-1), all} {
				if q := wakes(t, r, idle, p); q != p {
					t.Errorf("%s: of %d, idle %v, is woken %d", name, p, idle.All(), q)
				}
				if q := wakes(t, alone, idle, p); q != p {
					t.Errorf("%s: of %d, plugged alone, idle %v, is woken %d", name, p, idle.All(), q)
				}
			}
		}
	}
}

// P18.2: the first one that is near and idle, with a lower number or a higher
// one; of nobody idle -1.
func TestWakeNear(t *testing.T) {
	// The processors 0 and 1 are of one core, 2 of their node; 3 is alone; 4 is
	// of one node with 5, 6 and 7, who are of one core.
	r := crowd(tree("m(n(c(pp)c(p))n(c(p))n(c(p)c(ppp)))"))
	for _, c := range []struct {
		p    int
		idle bits.Set
		want int
	}{
		{0, bits.Of(), -1},
		{0, bits.Of(1, 2, 3), 1},
		{0, bits.Of(2, 3, 7), 2},
		{0, bits.Of(3, 7), 3},
		{0, bits.Of(7, 5), 5},
		{1, bits.Of(0, 2), 0},
		{1, bits.Of(2, 3), 2},
		{2, bits.Of(3, 1), 1},
		{2, bits.Of(0, 1, 3), 0},
		{2, bits.Of(7, 4), 4},
		{3, bits.Of(0, 1, 2, 7), 7},
		{3, bits.Of(0, 1, 2, 4), 4},
		{3, bits.Of(2, 1), 1},
		{4, bits.Of(3, 6, 7), 6},
		{4, bits.Of(3, 0), 0},
		{5, bits.Of(4, 7), 7},
		{5, bits.Of(4, 0), 4},
		{6, bits.Of(5, 7), 7},
		{6, bits.Of(5, 4), 5},
		{6, bits.Of(4, 0, 1), 4},
		{6, bits.Of(3, 2), 2},
		{7, bits.Of(6, 5), 5},
		{7, bits.Of(6, 4), 6},
		{7, bits.Of(3), 3},
		{7, bits.Of(8, 63), -1},
	} {
		if q := wakes(t, r, c.idle, c.p); q != c.want {
			t.Errorf("of %d, idle %v, is woken %d, not %d", c.p, c.idle.All(), q, c.want)
		}
	}
}

// P18.2: numbers that stand in another turn than the nodes: 0, 3 and 4 are of
// the node 1, of these 0 and 4 of one core; 1, 2 and 5 of the node 0, of these 1
// and 5 of one core.
func TestWakeMixed(t *testing.T) {
	r := empty(mixed(), 2)
	for p, turn := range [][]int{{0, 4, 3, 1, 2, 5}, {1, 5, 2, 3, 4, 0}, {2, 5, 1, 3, 4, 0}, {3, 4, 0, 5, 1, 2}, {4, 0, 3, 5, 1, 2}, {5, 1, 2, 0, 3, 4}} {
		idle := all
		for _, q := range turn {
			if woken := wakes(t, r, idle, p); woken != q {
				t.Errorf("of %d, idle %v, is woken %d, not %d", p, idle.All(), woken, q)
			}
			idle = idle.Without(q)
		}
		if woken := wakes(t, r, idle, p); woken != -1 {
			t.Errorf("of %d, with nobody idle, is woken %d", p, woken)
		}
	}
}

// P18.2: who is idle but not plugged, or plugged but not idle, is passed over,
// how near it may be, p itself, too.
func TestWakePassed(t *testing.T) {
	r := empty(tree("m(n(c(ppp)c(p))n(c(p)))"), 2)
	for _, c := range []struct {
		p        int
		on, idle bits.Set
		want     int
	}{
		{0, bits.Of(1, 2, 3, 4), bits.Of(0, 1), 1},
		{0, bits.Of(0, 1, 2, 3, 4), bits.Of(1), 1},
		{0, bits.Of(1, 2, 3, 4), bits.Of(0), -1},
		{0, bits.Of(0), bits.Of(1, 2, 3, 4), -1},
		{0, bits.Of(0, 2), bits.Of(1, 2), 2},
		{0, bits.Of(1, 2), bits.Of(0, 2), 2},
		{0, bits.Of(0, 1, 3, 4), bits.Of(2, 3, 4), 3},
		{0, bits.Of(1, 3, 4), bits.Of(0, 2, 4), 4},
		{1, bits.Of(0, 3), bits.Of(1, 2, 3), 3},
		{2, bits.Of(2, 1), bits.Of(0, 1), 1},
		{3, bits.Of(0, 1, 2), bits.Of(3, 4, 2), 2},
		{3, bits.Of(3, 4), bits.Of(0, 1, 2, 4), 4},
		{4, bits.Of(2), all, 2},
		{4, bits.Of(0, 1, 2, 3, 4), bits.Of(3, 2), 2},
		{4, bits.Of(4, 3), bits.Of(0, 1, 2), -1},
	} {
		r.On = c.on
		if q := wakes(t, r, c.idle, c.p); q != c.want {
			t.Errorf("of %d, plugged %v, idle %v, is woken %d, not %d", c.p, c.on.All(), c.idle.All(), q, c.want)
		}
	}
}

// P18.2, P18.3: all Sets of who is idle, and of who is plugged, of small trees.
func TestWakeEach(t *testing.T) {
	for _, x := range [][]api.Vertex{tree("m(n(c(p)))"), tree("m(n(c(pp)))"), tree("m(n(c(pp)c(p))n(c(pp)))"), tree("m(n(c(p)c(pp)c(p)))"), tree("m(n(c(p))n(c(p))n(c(p)))")} {
		r := empty(x, 2)
		n := len(r.Rings)
		for on := bits.Set(1); on < 1<<n; on++ {
			r.On = on
			for idle := range bits.Set(1 << n) {
				for p := range n {
					// Whether somebody is woken hangs on whether somebody is both.
					if q := wakes(t, r, idle, p); (q >= 0) != (idle&on != 0) {
						t.Errorf("of %d, plugged %v, idle %v, is woken %d", p, on.All(), idle.All(), q)
					}
				}
			}
		}
	}
}

// P18.2: one alone is idle, of each tree: it is woken, of whichever p; and of all
// but p it is the first one that is near.
func TestWakeAlone(t *testing.T) {
	for name, x := range trees() {
		r := empty(x, 16)
		n := len(r.Rings)
		for p := range n {
			for q := range n {
				if woken := wakes(t, r, bits.Of(q), p); woken != q {
					t.Errorf("%s: of %d, idle %d alone, is woken %d", name, p, q, woken)
				}
			}
			if q := wakes(t, r, all.Without(p), p); (q < 0) != (n == 1) || q == p {
				t.Errorf("%s: of %d, all others idle, is woken %d", name, p, q)
			}
			if q := wakes(t, r, 0, p); q != -1 {
				t.Errorf("%s: of %d, nobody idle, is woken %d", name, p, q)
			}
		}
	}
}

// P18.2: one alone is plugged: it is woken, if it is idle, and else nobody.
func TestWakeOnlyPlugged(t *testing.T) {
	for name, x := range trees() {
		r := empty(x, 2)
		n := len(r.Rings)
		for q := range n {
			r.On = bits.Of(q)
			for p := range n {
				if woken := wakes(t, r, all, p); woken != q {
					t.Errorf("%s: of %d, %d plugged alone, is woken %d", name, p, q, woken)
				}
				if woken := wakes(t, r, all.Without(q), p); woken != -1 {
					t.Errorf("%s: of %d, %d plugged alone and not idle, is woken %d", name, p, q, woken)
				}
			}
		}
	}
}

// P18.2: members of idle that are no processors wake nobody, and turn nothing.
func TestWakeNoMembers(t *testing.T) {
	for name, x := range trees() {
		r := crowd(x)
		n := len(r.Rings)
		procs := bits.Of(row(0, n-1)...)
		for p := range n {
			for _, idle := range []bits.Set{bits.Of(n), bits.Of(63), bits.Of(32, 40, 62), all &^ procs} {
				if q := wakes(t, r, idle&^procs, p); q != -1 {
					t.Errorf("%s: of %d, idle %v, is woken %d", name, p, idle.All(), q)
				}
				if q := wakes(t, r, idle|bits.Of(n-1), p); q != n-1 {
					t.Errorf("%s: of %d, idle %v and the last one, is woken %d", name, p, idle.All(), q)
				}
			}
		}
	}
}

// P18.2: who stands where, and of what size rings are, is nothing to who is
// woken.
func TestWakeWhoever(t *testing.T) {
	for name, x := range trees() {
		full, none := crowd(x), empty(x, 16)
		for p := range full.Rings {
			for _, idle := range []bits.Set{0x5555_5555, 0xaaaa_aaaa, 0xf0f0_f0f0, 1 << 31, 6} {
				if a, b := wakes(t, full, idle, p), wakes(t, none, idle, p); a != b {
					t.Errorf("%s: of %d, idle %v, are woken %d, %d", name, p, idle.All(), a, b)
				}
			}
		}
	}
}

// P18.2, P18.3: woken again and again, and idle no more then, all that are idle
// and plugged are woken, each once, nobody behind one that is farther.
func TestWakeAgain(t *testing.T) {
	for name, x := range trees() {
		for seed := range 4 {
			m := mixer(seed)
			r := empty(x, 2)
			n := len(r.Rings)
			for p := 1; p < n; p++ {
				if m.below(3) == 0 {
					r.On = r.On.Without(p)
				}
			}
			p, idle, w := m.below(n), bits.Set(m.below(1<<20)), ways(x)
			var told []int
			for left, far := idle, 0; ; {
				q := wakes(t, r, left, p)
				if q == -1 {
					break
				}
				if apart(w[p], w[q]) < far {
					t.Fatalf("%s: of %d is woken %d, behind %v", name, p, q, told)
				}
				told, left, far = append(told, q), left.Without(q), apart(w[p], w[q])
			}
			if want := (idle & r.On).All(); !slices.Equal(sorted(told), want) {
				t.Errorf("%s: of %d are woken %v, not %v", name, p, told, want)
			}
		}
	}
}

// P18.3: who is ready and who is woken for it, in turn, as they come.
func TestReadyAndWake(t *testing.T) {
	r := empty(tree("m(n(c(pp)c(p))n(c(pp)))"), 2)
	r.On, r.Rings[1].Next = r.On.Without(2), 20
	idle := bits.Of(0, 2, 3)
	for k, c := range []struct{ p, woken, at, row int }{
		{1, 0, 1, -1},
		{1, 3, 1, -1},
		{2, -1, -1, 0},
		{0, -1, 0, -1},
	} {
		r, _ = readies(t, r, c.p, k+1)
		q := wakes(t, r, idle, c.p)
		idle = idle.Without(q)
		if at, row := runs.Where(r, k+1); q != c.woken || at != c.at || row != c.row {
			t.Errorf("%d to %d: woken is %d, and it stands at %d, %d", k+1, c.p, q, at, row)
		}
	}
	if idle != bits.Of(2) || place.Wake(r, idle, 2) != -1 {
		t.Errorf("idle are %v", idle.All())
	}
}
