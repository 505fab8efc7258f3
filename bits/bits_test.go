package bits_test

import (
	"slices"
	"testing"

	"catafalque/bits"
)

// The document's example.
func TestExample(t *testing.T) {
	s := bits.Of(5, 2)
	if l := s.All(); !slices.Equal(l, []int{2, 5}) {
		t.Errorf("All is %v", l)
	}
	if a, b := s.Next(3), s.Next(6); a != 5 || b != 2 {
		t.Errorf("Next is %d, %d", a, b)
	}
}

// P6.1: numbers in whatever order and however often they come.
func TestOf(t *testing.T) {
	for _, c := range []struct {
		l, all []int
		s      bits.Set
	}{
		{nil, nil, 0},
		{[]int{}, nil, 0},
		{[]int{0}, []int{0}, 1},
		{[]int{63}, []int{63}, 1 << 63},
		{[]int{1, 1, 1}, []int{1}, 2},
		{[]int{3, 1}, []int{1, 3}, 10},
		{[]int{1, 3}, []int{1, 3}, 10},
		{[]int{63, 0}, []int{0, 63}, 1<<63 + 1},
		{[]int{32, 31, 33}, []int{31, 32, 33}, 7 << 31},
		{[]int{9, 4, 9, 62, 4, 0, 9}, []int{0, 4, 9, 62}, 1<<62 + 1<<9 + 1<<4 + 1},
	} {
		s := bits.Of(c.l...)
		if s != c.s {
			t.Errorf("Of%v is %b", c.l, uint64(s))
		}
		holds(t, s, those(c.all))
	}
}

// P6.1: all 64, rising, falling and crosswise, once and twice.
func TestOfAll(t *testing.T) {
	all := row(0, 63)
	down := slices.Clone(all)
	slices.Reverse(down)
	cross := slices.SortedFunc(slices.Values(all), func(a, b int) int { return a*37%67 - b*37%67 })
	for _, l := range [][]int{all, down, cross, slices.Concat(cross, all, down)} {
		s := bits.Of(l...)
		if s != 1<<64-1 || s.Count() != 64 {
			t.Errorf("Of%v is %b, of %d", l, uint64(s), s.Count())
		}
		holds(t, s, those(all))
	}
}

// P6.1: others are never members, alone and among members.
func TestOfOthers(t *testing.T) {
	for _, n := range odd {
		holds(t, bits.Of(n), members{})
		holds(t, bits.Of(n, n), members{})
		holds(t, bits.Of(n, 6, n), those([]int{6}))
		holds(t, bits.Of(63, n, 0, 20), those([]int{0, 20, 63}))
	}
	holds(t, bits.Of(odd...), members{})
	holds(t, bits.Of(slices.Concat(odd, []int{7, 0}, odd)...), those([]int{0, 7}))
	holds(t, bits.Of(slices.Concat(row(-70, 140), row(-3, 3))...), those(row(0, 63)))
}

// P6.1, P6.2, P1: all calls of members of many kinds, which are told by the
// bits of the Set, whoever made it.
func TestSets(t *testing.T) {
	for _, m := range sets() {
		holds(t, m.set(), m)
		holds(t, bits.Of(m.all()...), m)
		turned(t, m.set(), m)
	}
}

// P6.1: all subsets of few numbers.
func TestSubsets(t *testing.T) {
	for _, few := range [][]int{row(0, 6), row(57, 63), row(28, 34), {0, 1, 31, 32, 33, 62, 63}} {
		for which := range 1 << len(few) {
			var l []int
			for k, n := range few {
				if which>>k%2 == 1 {
					l = append(l, n)
				}
			}
			s, m := bits.Of(l...), those(l)
			holds(t, s, m)
			turned(t, s, m)
		}
	}
}

// P6.1: what can't be a member is none, and changes nothing.
func TestOthers(t *testing.T) {
	for _, m := range []members{{}, those([]int{0}), those([]int{63}), those([]int{5, 58}), those(row(0, 62)), those(row(1, 63)), those(row(0, 63))} {
		s := m.set()
		for _, n := range odd {
			if s.Has(n) {
				t.Errorf("Has(%d) of %v is true", n, m.all())
			}
			if with, without := s.With(n), s.Without(n); with != s || without != s {
				t.Errorf("With(%d) and Without(%d) of %v are %v and %v", n, n, m.all(), with.All(), without.All())
			}
		}
	}
}

// P6.2: from a member itself, from between two, from behind the last one.
func TestNext(t *testing.T) {
	for _, c := range []struct{ l, from, next []int }{
		{[]int{5, 2}, []int{0, 1, 2, 3, 4, 5, 6, 62, 63}, []int{2, 2, 2, 5, 5, 5, 2, 2, 2}},
		{[]int{0}, []int{0, 1, 31, 32, 62, 63}, []int{0, 0, 0, 0, 0, 0}},
		{[]int{63}, []int{0, 1, 31, 32, 62, 63}, []int{63, 63, 63, 63, 63, 63}},
		{[]int{63, 0}, []int{0, 1, 31, 32, 62, 63}, []int{0, 63, 63, 63, 63, 63}},
		{[]int{31, 32}, []int{0, 30, 31, 32, 33, 63}, []int{31, 31, 31, 32, 31, 31}},
		{[]int{62, 1}, []int{0, 1, 2, 61, 62, 63}, []int{1, 1, 62, 62, 62, 1}},
	} {
		s := bits.Of(c.l...)
		for k, from := range c.from {
			if n := s.Next(from); n != c.next[k] {
				t.Errorf("Next(%d) of %v is %d, not %d", from, c.l, n, c.next[k])
			}
		}
	}
	all := bits.Of(row(0, 63)...)
	for n := range 64 {
		if k := all.Next(n); k != n {
			t.Errorf("Next(%d) of all is %d", n, k)
		}
	}
}

// P6.2: of what can't be a member the least one.
func TestNextOfOthers(t *testing.T) {
	for _, m := range sets() {
		s, least := m.set(), m.next(0)
		for _, from := range odd {
			if n := s.Next(from); n != least {
				t.Fatalf("Next(%d) of %v is %d, not %d", from, m.all(), n, least)
			}
		}
	}
}

// P6.2: of the empty set there is none, wherever one begins.
func TestNextOfNone(t *testing.T) {
	for _, from := range slices.Concat(row(-70, 140), odd) {
		for _, s := range []bits.Set{0, bits.Of(), bits.Of(64, -1), bits.Of(9).Without(9)} {
			if n := s.Next(from); n != -1 {
				t.Errorf("Next(%d) of none is %d", from, n)
			}
		}
	}
}

// P6.2: gone round from member to member, each comes by once, rising from
// where one began, and then that one again.
func TestRound(t *testing.T) {
	for _, m := range sets() {
		l := m.all()
		for k, from := range l {
			s, at := m.set(), from
			for step := range len(l) + 1 {
				if want := l[(k+step)%len(l)]; at != want {
					t.Fatalf("%d behind %d is %d in %v, not %d", step, from, at, l, want)
				}
				at = s.Next(at + 1)
			}
		}
	}
}

// P6.3: what is in is in until it is taken out, whatever else is put in and
// taken out; a Set that was turned stays as it was itself.
func TestInUntilOut(t *testing.T) {
	for n := range 64 {
		s := bits.Of(n)
		for k := range 64 {
			if k != n {
				s = s.With(k).Without((k + 1) % 64).With(n).Without(k)
			}
			if !s.Has(n) || s.Count() != 1 {
				t.Fatalf("%d is not in alone, after %d: %v", n, k, s.All())
			}
		}
		out := s.Without(n)
		if !s.Has(n) || out.Has(n) || out != 0 {
			t.Fatalf("without %d: %v, of %v", n, out.All(), s.All())
		}
		in := out.With(n)
		if out.Has(n) || in != s {
			t.Fatalf("with %d: %v, of %v", n, in.All(), out.All())
		}
	}
}

// P6.1, P6.3: in and in again is in once; out and out again is out.
func TestAgain(t *testing.T) {
	for _, m := range sets() {
		s := m.set()
		for _, n := range []int{0, 1, 31, 32, 62, 63} {
			with, without := s.With(n), s.Without(n)
			if with.With(n) != with || without.Without(n) != without {
				t.Fatalf("%d again, of %v", n, m.all())
			}
			if with.Without(n) != without || without.With(n) != with {
				t.Fatalf("%d out again and in again, of %v", n, m.all())
			}
			if with.Count() != without.Count()+1 {
				t.Fatalf("Count with %d is %d, without %d", n, with.Count(), without.Count())
			}
		}
	}
}

// P6.1, P6.2, P6.3: long rows of calls, with wrong ones among them.
func TestLong(t *testing.T) {
	x := uint32(66)
	under := func(n int) int {
		x = next(x)
		return int(x>>8) % n
	}
	s, m := bits.Of(), members{}
	for step := range 20000 {
		n := under(80) - 8
		in := under(4) < 1+step/1000%3 // it is filled, and emptied again
		if 0 <= n && n <= 63 {
			m[n] = in
		}
		if in {
			s = s.With(n)
		} else {
			s = s.Without(n)
		}
		if s != m.set() {
			t.Fatalf("step %d: %v, not %v", step, s.All(), m.all())
		}
		asked(t, s, m, under(80)-8)
		if step%20 == 0 {
			holds(t, s, m)
		}
	}
}

// R3: what is handed in to Of stays as it was, behind its end, too, and is not
// kept.
func TestOfKeepsNothing(t *testing.T) {
	for _, l := range [][]int{{}, {5, 2}, {63, 63, 0}, {70, 1, -1, 0}, row(0, 63)} {
		had := append(slices.Clone(l), 9, 8, 7)
		l = slices.Clone(had)[:len(l)]
		s := bits.Of(l...)
		if !slices.Equal(l[:len(had)], had) {
			t.Errorf("%v was made %v", had, l[:len(had)])
		}
		all := s.All()
		for k := range had {
			l[:len(had)][k] = 40
		}
		if got := s.All(); !slices.Equal(got, all) {
			t.Errorf("All was %v, is %v", all, got)
		}
	}
}

// R3, R4: what All told is nobody's but the caller's.
func TestAllIsNew(t *testing.T) {
	for _, m := range sets() {
		s := m.set()
		a, b := s.All(), s.All()
		a = a[:cap(a)]
		for k := range a {
			a[k] = -7
		}
		if !slices.Equal(b, m.all()) || s != m.set() {
			t.Fatalf("written over: %v, not %v", b, m.all())
		}
		if c := s.All(); !slices.Equal(c, m.all()) {
			t.Fatalf("All is %v, not %v", c, m.all())
		}
	}
}

// R3, R4: a call tells the same, whatever was called in between; and what All
// told stays as it was.
func TestNothingIsKept(t *testing.T) {
	s := bits.Of(4, 44)
	told := s.All()
	for _, m := range sets() {
		holds(t, m.set().With(3).Without(44), those(slices.DeleteFunc(append(m.all(), 3), func(n int) bool { return n == 44 })))
		if s != 1<<44+1<<4 || bits.Of(44, 4) != s || s.Next(5) != 44 || s.Next(45) != 4 || s.Count() != 2 {
			t.Fatalf("the set of 4 and 44 is %v", s.All())
		}
		if !slices.Equal(told, []int{4, 44}) {
			t.Fatalf("All told 4 and 44, which are %v now", told)
		}
	}
}
