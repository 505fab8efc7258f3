package sem_test

import (
	"math"
	"slices"
	"testing"

	"catafalque/sem"
)

// most is the greatest count that may be, as the document says.
const most = 1000000

// odd are numbers of every kind: next to 0 and to the greatest count, far out,
// and such as cut down to 32 bits would be another one.
var odd = []int{
	math.MinInt, math.MinInt + 1, -1<<32 - 1, -1 << 32, -1 << 31, -most - 1, -most, -65, -2, -1,
	0, 1, 2, 3, 64, 65, 999998, 999999, most, most + 1, most + 2, 1 << 31, 1 << 32, 1<<32 + 1, 1<<32 + most, math.MaxInt - 1, math.MaxInt,
}

// row are the numbers from a to b.
func row(a, b int) []int {
	var l []int
	for g := a; g <= b; g++ {
		l = append(l, g)
	}
	return l
}

// of is the semaphore of a count, for which these wait.
func of(count int, wait ...int) sem.Sem {
	return sem.Sem{Count: count, Wait: wait}
}

// alike tells whether two are the same; nil and empty are.
func alike(s, u sem.Sem) bool {
	return s.Count == u.Count && slices.Equal(s.Wait, u.Wait)
}

// acquired is what Acquire should tell: those who wait are told one by one.
func acquired(s sem.Sem, g int) (sem.Sem, bool) {
	u := sem.Sem{Count: s.Count}
	for _, w := range s.Wait {
		u.Wait = append(u.Wait, w)
	}
	if s.Count >= 1 {
		u.Count--
		return u, true
	}
	u.Wait = append(u.Wait, g)
	return u, false
}

// released is what Release should tell.
func released(s sem.Sem) (sem.Sem, int) {
	u, woken := sem.Sem{Count: s.Count}, 0
	for k, w := range s.Wait {
		if k == 0 {
			woken = w
		} else {
			u.Wait = append(u.Wait, w)
		}
	}
	switch {
	case len(s.Wait) > 0 || s.Count == most:
	case s.Count == math.MaxInt:
		u.Count = math.MinInt
	default:
		u.Count++
	}
	return u, woken
}

// may is what May should tell: each one is held against each other one.
func may(s sem.Sem) bool {
	ok := s.Count >= 0 && s.Count <= most
	if s.Count > 0 && len(s.Wait) > 0 {
		ok = false
	}
	for k, g := range s.Wait {
		if g <= 0 {
			ok = false
		}
		for _, h := range s.Wait[k+1:] {
			if g == h {
				ok = false
			}
		}
	}
	return ok
}

// asSaid holds all calls against the document's words, and what is handed in
// against what it was, with what stands in the memory behind those who wait.
func asSaid(t *testing.T, s sem.Sem, g int) {
	t.Helper()
	n := len(s.Wait)
	wait := append(slices.Clone(s.Wait), 71, 72, 73)
	full := slices.Clone(wait)
	in := sem.Sem{Count: s.Count, Wait: wait[:n]}
	a, ok := sem.Acquire(in, g)
	r, woken := sem.Release(in)
	is := sem.May(in)
	if u, want := acquired(s, g); !alike(a, u) || ok != want {
		t.Fatalf("Acquire(%v, %d) is %v, %t, not %v, %t", s, g, a, ok, u, want)
	}
	if u, want := released(s); !alike(r, u) || woken != want {
		t.Fatalf("Release(%v) is %v, %d, not %v, %d", s, r, woken, u, want)
	}
	if want := may(s); is != want {
		t.Fatalf("May(%v) is %t", s, is)
	}
	if in.Count != s.Count || len(in.Wait) != n || !slices.Equal(wait, full) {
		t.Fatalf("%v is %v now, of %v", s, in, wait)
	}
	// What is told has memory of its own: neither is seen to change with the
	// other, nor with what was handed in.
	for _, l := range [][]int{a.Wait, r.Wait} {
		l = l[:cap(l)]
		for k := range l {
			l[k] = -7
		}
		if !slices.Equal(wait, full) {
			t.Fatalf("%v is changed by what was told", s)
		}
	}
	a, _ = sem.Acquire(in, g)
	r, _ = sem.Release(in)
	u, _ := acquired(s, g)
	v, _ := released(s)
	for k := range wait {
		wait[k] = -8
	}
	if !alike(a, u) || !alike(r, v) {
		t.Fatalf("what was told of %v is changed by it: %v, %v", s, a, r)
	}
}

// rows gives all rows of n of these numbers at most, each in the same memory.
func rows(n int, of []int, give func(l []int)) {
	l := make([]int, 0, n)
	var from func()
	from = func() {
		give(l)
		if len(l) == n {
			return
		}
		for _, g := range of {
			l = append(l, g)
			from()
			l = l[:len(l)-1]
		}
	}
	from()
}

// under gives numbers below n that are far from regular, and always the same.
func under(seed uint32) func(n int) int {
	return func(n int) int {
		seed = seed*1664525 + 1013904223
		return int(seed>>8) % n
	}
}
