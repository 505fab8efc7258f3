package bits_test

import (
	"math"
	"slices"
	"testing"

	"catafalque/bits"
)

// odd are numbers that are never members. Cut down to 8, 16 or 32 bits, or to
// the 6 that a member has, many of them would be one.
var odd = []int{
	math.MinInt, math.MinInt + 1, math.MinInt + 5, -1 << 32, -1<<32 + 5, -65536, -256, -251, -128, -127, -65, -64, -63, -59, -33, -32, -6, -2, -1,
	64, 65, 69, 95, 96, 127, 128, 191, 192, 255, 256, 261, 320, 65536, 65541, 1 << 31, 1 << 32, 1<<32 + 5, math.MaxInt - 63, math.MaxInt - 58, math.MaxInt - 1, math.MaxInt,
}

// row is the numbers from a to b.
func row(a, b int) []int {
	var l []int
	for n := a; n <= b; n++ {
		l = append(l, n)
	}
	return l
}

// members are what a set should hold: of each number whether it is one.
type members [64]bool

// those are the members that stand in a row.
func those(l []int) members {
	var m members
	for n := range m {
		m[n] = slices.Contains(l, n)
	}
	return m
}

// all are these members, rising.
func (m members) all() []int {
	var l []int
	for n, is := range m {
		if is {
			l = append(l, n)
		}
	}
	return l
}

// set is the Set that has just these bits.
func (m members) set() bits.Set {
	var s bits.Set
	for n := range m {
		s *= 2
		if m[63-n] {
			s++
		}
	}
	return s
}

// next is the first member at which one comes by who goes up from a number,
// and round from 63 to 0; of what can't be one, who goes up from 0.
func (m members) next(from int) int {
	if from < 0 || from > 63 {
		from = 0
	}
	for range 64 {
		if m[from] {
			return from
		}
		from = (from + 1) % 64
	}
	return -1
}

// holds asks a set for all that it tells, which should be of these members.
func holds(t *testing.T, s bits.Set, m members) {
	t.Helper()
	if s != m.set() {
		t.Fatalf("the set is %b, not that of %v", uint64(s), m.all())
	}
	if l := s.All(); !slices.Equal(l, m.all()) {
		t.Fatalf("All is %v, not %v", l, m.all())
	}
	if n := s.Count(); n != len(m.all()) {
		t.Fatalf("Count of %v is %d", m.all(), n)
	}
	for n := -2; n <= 66; n++ {
		asked(t, s, m, n)
	}
}

// asked asks a set for a number alone.
func asked(t *testing.T, s bits.Set, m members, n int) {
	t.Helper()
	if is, want := s.Has(n), 0 <= n && n <= 63 && m[n]; is != want {
		t.Fatalf("Has(%d) of %v is %t", n, m.all(), is)
	}
	if k, want := s.Next(n), m.next(n); k != want {
		t.Fatalf("Next(%d) of %v is %d, not %d", n, m.all(), k, want)
	}
}

// turned puts each number in, and takes each out, one at a time.
func turned(t *testing.T, s bits.Set, m members) {
	t.Helper()
	for n := range 64 {
		with, without := m, m
		with[n], without[n] = true, false
		if got := s.With(n); got != with.set() {
			t.Fatalf("With(%d) of %v is %b", n, m.all(), uint64(got))
		}
		if got := s.Without(n); got != without.set() {
			t.Fatalf("Without(%d) of %v is %b", n, m.all(), uint64(got))
		}
	}
}

// sets are members of many kinds: none, all, one, two, all but one, rows,
// every so many, and numbers that are far from regular, few and many.
func sets() []members {
	l := []members{{}, those(row(0, 63))}
	for a := range 64 {
		l = append(l, those([]int{a}), those(slices.Concat(row(0, a-1), row(a+1, 63))), those(row(a, 63)), those(row(a/2, a)))
		for b := range a {
			l = append(l, those([]int{a, b}))
		}
	}
	for step := 2; step <= 33; step++ {
		var m members
		for n := step / 3; n < 64; n += step {
			m[n] = true
		}
		l = append(l, m)
	}
	x := uint32(6)
	for k := range 400 {
		var m members
		for n := range m {
			x = next(x)
			m[n] = int(x>>16)%8 < k%8
		}
		l = append(l, m)
	}
	return l
}

// next is a number of a row that is far from regular, and always the same.
func next(x uint32) uint32 {
	return x*1664525 + 1013904223
}
