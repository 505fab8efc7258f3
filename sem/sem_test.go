package sem_test

import (
	"math"
	"slices"
	"testing"

	"catafalque/sem"
)

// acquires acquires for one, which should go through, or wait.
func acquires(t *testing.T, s sem.Sem, g int, through bool, want sem.Sem) sem.Sem {
	t.Helper()
	u, ok := sem.Acquire(s, g)
	if !alike(u, want) || ok != through {
		t.Fatalf("Acquire(%v, %d) is %v, %t, not %v, %t", s, g, u, ok, want, through)
	}
	return u
}

// releases releases, which should wake this one; 0: nobody.
func releases(t *testing.T, s sem.Sem, woken int, want sem.Sem) sem.Sem {
	t.Helper()
	u, g := sem.Release(s)
	if !alike(u, want) || g != woken {
		t.Fatalf("Release(%v) is %v, %d, not %v, %d", s, u, g, want, woken)
	}
	return u
}

// The document's examples.
func TestExample(t *testing.T) {
	s := acquires(t, of(1), 5, true, of(0))
	s = acquires(t, s, 6, false, of(0, 6))
	s = releases(t, s, 6, of(0))
	releases(t, s, 0, of(1))
}

// P10.1: a count is acquired till it is used up; who comes then waits, behind
// those who wait.
func TestAcquire(t *testing.T) {
	for _, c := range []struct {
		count int
		wait  []int
		g     int
		left  int
		waits []int
		ok    bool
	}{
		{3, nil, 5, 2, nil, true},
		{2, nil, 5, 1, nil, true},
		{1, nil, 5, 0, nil, true},
		{1, []int{}, 5, 0, nil, true},
		{0, nil, 5, 0, []int{5}, false},
		{0, []int{}, 5, 0, []int{5}, false},
		{0, []int{7}, 5, 0, []int{7, 5}, false},
		{0, []int{7, 3, 9}, 5, 0, []int{7, 3, 9, 5}, false},
		{0, row(2, 64), 1, 0, append(row(2, 64), 1), false},
		{999999, nil, 5, 999998, nil, true},
		{1000000, nil, 5, 999999, nil, true},
		{1000001, nil, 5, 1000000, nil, true},
		{math.MaxInt, nil, 5, math.MaxInt - 1, nil, true},
		// A count below 0 is not above it: who comes waits.
		{-1, nil, 5, -1, []int{5}, false},
		{-1, []int{7}, 5, -1, []int{7, 5}, false},
		{-1000000, nil, 5, -1000000, []int{5}, false},
		{math.MinInt, nil, 5, math.MinInt, []int{5}, false},
		{math.MinInt, []int{7, 3}, 5, math.MinInt, []int{7, 3, 5}, false},
		// Somebody who waits while the count is above 0 goes on waiting.
		{1, []int{7}, 5, 0, []int{7}, true},
		{2, []int{7, 3}, 5, 1, []int{7, 3}, true},
		{math.MaxInt, []int{7, 3}, 5, math.MaxInt - 1, []int{7, 3}, true},
		// Who waits already does it once more, if it comes again.
		{0, []int{5}, 5, 0, []int{5, 5}, false},
		{0, []int{7, 5, 3}, 5, 0, []int{7, 5, 3, 5}, false},
		{1, []int{5}, 5, 0, []int{5}, true},
		{0, []int{5, 5}, 5, 0, []int{5, 5, 5}, false},
		// Numbers are taken as they come.
		{0, nil, 0, 0, []int{0}, false},
		{0, nil, -5, 0, []int{-5}, false},
		{0, []int{0, -1}, math.MinInt, 0, []int{0, -1, math.MinInt}, false},
		{0, []int{math.MinInt}, math.MaxInt, 0, []int{math.MinInt, math.MaxInt}, false},
		{1, nil, 0, 0, nil, true},
		{1, nil, math.MinInt, 0, nil, true},
		{1, []int{0, -1}, -5, 0, []int{0, -1}, true},
	} {
		s := of(c.count, c.wait...)
		acquires(t, s, c.g, c.ok, of(c.left, c.waits...))
		asSaid(t, s, c.g)
	}
}

// P10.1: who waits first is woken; if nobody waits, the count is one more.
func TestRelease(t *testing.T) {
	for _, c := range []struct {
		count int
		wait  []int
		left  int
		waits []int
		woken int
	}{
		{0, nil, 1, nil, 0},
		{0, []int{}, 1, nil, 0},
		{1, nil, 2, nil, 0},
		{41, nil, 42, nil, 0},
		{0, []int{7}, 0, nil, 7},
		{0, []int{7, 3}, 0, []int{3}, 7},
		{0, []int{7, 3, 9}, 0, []int{3, 9}, 7},
		{0, row(1, 64), 0, row(2, 64), 1},
		// The greatest count stays as it is; others, above it too, are one more.
		{999998, nil, 999999, nil, 0},
		{999999, nil, 1000000, nil, 0},
		{1000000, nil, 1000000, nil, 0},
		{1000000, []int{}, 1000000, nil, 0},
		{1000001, nil, 1000002, nil, 0},
		{1<<32 + 1000000, nil, 1<<32 + 1000001, nil, 0},
		{math.MaxInt - 1, nil, math.MaxInt, nil, 0},
		{math.MaxInt, nil, math.MinInt, nil, 0},
		{math.MaxInt, []int{}, math.MinInt, nil, 0},
		// Below 0 it is one more, too.
		{-1, nil, 0, nil, 0},
		{-2, nil, -1, nil, 0},
		{-1000000, nil, -999999, nil, 0},
		{math.MinInt, nil, math.MinInt + 1, nil, 0},
		// If somebody waits, that one is woken, whatever the count is.
		{-1, []int{7}, -1, nil, 7},
		{math.MinInt, []int{7, 3}, math.MinInt, []int{3}, 7},
		{1, []int{7, 3}, 1, []int{3}, 7},
		{999999, []int{7}, 999999, nil, 7},
		{1000000, []int{7}, 1000000, nil, 7},
		{1000000, []int{7, 3}, 1000000, []int{3}, 7},
		{1000001, []int{7}, 1000001, nil, 7},
		{math.MaxInt, []int{7, 3}, math.MaxInt, []int{3}, 7},
		// Whoever that is.
		{0, []int{0}, 0, nil, 0},
		{0, []int{0, 3}, 0, []int{3}, 0},
		{0, []int{-7, 3}, 0, []int{3}, -7},
		{0, []int{math.MinInt, math.MaxInt}, 0, []int{math.MaxInt}, math.MinInt},
		{0, []int{math.MaxInt, 0}, 0, []int{0}, math.MaxInt},
		{0, []int{7, 7}, 0, []int{7}, 7},
		{0, []int{7, 3, 7}, 0, []int{3, 7}, 7},
	} {
		s := of(c.count, c.wait...)
		releases(t, s, c.woken, of(c.left, c.waits...))
		asSaid(t, s, 5)
	}
}

// P10.1: a count from 0 to 1000000, those who wait above 0, each once, and
// nobody who waits, if the count is above 0.
func TestMay(t *testing.T) {
	for _, c := range []struct {
		count int
		wait  []int
		want  bool
	}{
		{0, nil, true},
		{0, []int{}, true},
		{1, nil, true},
		{1, []int{}, true},
		{2, nil, true},
		{999999, nil, true},
		{1000000, nil, true},
		{1000000, []int{}, true},
		{1000001, nil, false},
		{1000001, []int{}, false},
		{1 << 32, nil, false},
		{1<<32 + 1, nil, false},
		{math.MaxInt, nil, false},
		{-1, nil, false},
		{-1, []int{}, false},
		{-1000000, nil, false},
		{-1 << 32, nil, false},
		{math.MinInt, nil, false},
		// Those who wait.
		{0, []int{1}, true},
		{0, []int{7}, true},
		{0, []int{7, 3, 9}, true},
		{0, []int{9, 7, 3, 1}, true},
		{0, []int{math.MaxInt}, true},
		{0, []int{math.MaxInt, 1, math.MaxInt - 1}, true},
		{0, row(1, 64), true},
		{0, row(1, 100000), true},
		// They are above 0.
		{0, []int{0}, false},
		{0, []int{-1}, false},
		{0, []int{math.MinInt}, false},
		{0, []int{0, 7}, false},
		{0, []int{7, 0}, false},
		{0, []int{7, -3, 9}, false},
		{0, []int{7, 3, math.MinInt}, false},
		{0, append(row(1, 64), 0), false},
		{0, append([]int{-1}, row(1, 64)...), false},
		// Each once.
		{0, []int{7, 7}, false},
		{0, []int{7, 3, 7}, false},
		{0, []int{3, 7, 7}, false},
		{0, []int{7, 7, 3}, false},
		{0, []int{7, 7, 7}, false},
		{0, []int{math.MaxInt, 1, math.MaxInt}, false},
		{0, append(row(1, 64), 1), false},
		{0, append(row(1, 64), 64), false},
		{0, append(row(1, 64), 33), false},
		{0, append(row(1, 100000), 1), false},
		{0, []int{-7, -7}, false},
		{0, []int{0, 0}, false},
		// Nobody, if the count is above 0; and if it may not be, nothing may.
		{1, []int{7}, false},
		{2, []int{7, 3}, false},
		{999999, []int{7}, false},
		{1000000, []int{7}, false},
		{1000001, []int{7}, false},
		{math.MaxInt, []int{7}, false},
		{1, []int{0}, false},
		{-1, []int{7}, false},
		{-1, []int{7, 3}, false},
		{math.MinInt, []int{7}, false},
	} {
		s := of(c.count, c.wait...)
		was := slices.Clone(c.wait)
		if ok := sem.May(s); ok != c.want {
			t.Errorf("May of the count %d, with %d who wait, is %t", c.count, len(c.wait), ok)
		}
		if s.Count != c.count || !slices.Equal(s.Wait, was) {
			t.Errorf("May changed a semaphore of the count %d, with %v", c.count, was)
		}
	}
}

// P10.1, P1, R3: whatever the count is, whoever waits, and whoever comes.
func TestAnything(t *testing.T) {
	for count := -2; count <= 2; count++ {
		rows(5, []int{-1, 0, 1, 2, 3}, func(l []int) {
			for g := -1; g <= 3; g++ {
				asSaid(t, of(count, l...), g)
			}
		})
	}
	for _, count := range odd {
		rows(2, odd, func(l []int) {
			for _, g := range odd {
				asSaid(t, of(count, l...), g)
			}
		})
		for n := range 70 {
			asSaid(t, of(count, row(1, n)...), n+1)
			asSaid(t, of(count, row(1, n)...), n)
		}
	}
}

// R2: nil and empty are the same, whatever room is behind those who wait.
func TestNilAndEmpty(t *testing.T) {
	room := []int{7, 3, 9}
	for _, wait := range [][]int{nil, {}, make([]int, 0, 4), room[:0]} {
		for _, count := range odd {
			s := sem.Sem{Count: count, Wait: wait}
			u, ok := acquired(of(count), 5)
			acquires(t, s, 5, ok, u)
			u, woken := released(of(count))
			releases(t, s, woken, u)
			if is := sem.May(s); is != (count >= 0 && count <= most) {
				t.Errorf("May of the count %d is %t", count, is)
			}
		}
	}
	if !slices.Equal(room, []int{7, 3, 9}) {
		t.Errorf("what stood behind is %v now", room)
	}
}

// R3: of one semaphore several are told, and of each of these again: none of
// them is changed by what comes of the others.
func TestApart(t *testing.T) {
	s := of(0)
	for g := 1; g <= 40; g++ {
		s = acquires(t, s, g, false, of(0, row(1, g)...))
		a := acquires(t, s, 90, false, of(0, append(row(1, g), 90)...))
		b := acquires(t, s, 91, false, of(0, append(row(1, g), 91)...))
		c := releases(t, s, 1, of(0, row(2, g)...))
		d := acquires(t, c, 92, false, of(0, append(row(2, g), 92)...))
		e := acquires(t, c, 93, false, of(0, append(row(2, g), 93)...))
		for _, x := range []struct {
			is   sem.Sem
			want []int
		}{
			{s, row(1, g)},
			{a, append(row(1, g), 90)},
			{b, append(row(1, g), 91)},
			{c, row(2, g)},
			{d, append(row(2, g), 92)},
			{e, append(row(2, g), 93)},
		} {
			if !alike(x.is, of(0, x.want...)) {
				t.Fatalf("of %d, %v should be %v", g, x.is, x.want)
			}
		}
	}
}

// P10.1: a count is acquired till it is used up; released as often as it was
// acquired, with nobody who waits, it is what it was.
func TestUsedUp(t *testing.T) {
	for count := range 70 {
		s := of(count)
		for k := range count {
			s = acquires(t, s, k+1, true, of(count-k-1))
		}
		s = acquires(t, s, 99, false, of(0, 99))
		s = releases(t, s, 99, of(0))
		for k := range count {
			s = releases(t, s, 0, of(k+1))
		}
		if !sem.May(s) {
			t.Fatalf("%v may not be", s)
		}
	}
}

// P10.1, P10.2: the greatest count is reached, and not gone above.
func TestUpToMost(t *testing.T) {
	s := of(999990)
	for k := range 30 {
		s = releases(t, s, 0, of(min(999991+k, 1000000)))
		if !sem.May(s) {
			t.Fatalf("%v may not be", s)
		}
	}
	s = acquires(t, s, 5, true, of(999999))
	releases(t, s, 0, of(1000000))
}

// P10.2: who waits first is woken first, whoever came ahead and behind.
func TestInTurn(t *testing.T) {
	for _, n := range []int{1, 2, 3, 64, 1000} {
		for step := 1; step <= 7; step++ {
			var s sem.Sem
			var want []int
			for k := range n {
				g := (k*step*37)%1009 + 1
				want = append(want, g)
				u, ok := sem.Acquire(s, g)
				if ok || !sem.May(u) {
					t.Fatalf("Acquire(%v, %d) is %v, %t", s, g, u, ok)
				}
				s = u
			}
			var woken []int
			for range n {
				u, g := sem.Release(s)
				s, woken = u, append(woken, g)
			}
			if !slices.Equal(woken, want) || !alike(s, of(0)) {
				t.Fatalf("woken are %v, not %v, and left is %v", woken, want, s)
			}
		}
	}
}

// P10.2: what may be still may be, if who acquires doesn't wait already; and if
// it does, it still may be just if it went through.
func TestMayStays(t *testing.T) {
	for _, count := range []int{0, 1, 2, 3, 999999, 1000000} {
		rows(4, row(0, 5), func(l []int) {
			s := of(count, l...)
			if !sem.May(s) {
				return
			}
			if u, _ := sem.Release(s); !sem.May(u) {
				t.Fatalf("Release(%v) is %v", s, u)
			}
			for g := 1; g <= 6; g++ {
				u, _ := sem.Acquire(s, g)
				if is := sem.May(u); is == slices.Contains(l, g) {
					t.Fatalf("Acquire(%v, %d) is %v, which may be: %t", s, g, u, is)
				}
			}
		})
	}
}

// P10.1, P10.2: long rows of calls: each one that comes has it at once or is
// woken, in the turn in which it came, and none has it that isn't free.
func TestLong(t *testing.T) {
	below := under(10)
	for count := range 5 {
		s := of(count)
		free, came := count, []int{}
		for g := 1; g <= 4000; g++ {
			for range below(3) {
				u, woken := sem.Release(s)
				if len(came) > 0 {
					if woken != came[0] {
						t.Fatalf("Release(%v) is %v, %d", s, u, woken)
					}
					came = came[1:]
				} else if free++; woken != 0 {
					t.Fatalf("Release(%v) is %v, %d", s, u, woken)
				}
				s = u
			}
			u, ok := sem.Acquire(s, g)
			if ok != (free > 0) {
				t.Fatalf("Acquire(%v, %d) is %v, %t", s, g, u, ok)
			}
			if s = u; ok {
				free--
			} else {
				came = append(came, g)
			}
			if !alike(s, of(free, came...)) || !sem.May(s) {
				t.Fatalf("it is %v, and should be %d, %v", s, free, came)
			}
		}
	}
}
