package cost_test

import (
	"math"
	"slices"
	"testing"

	"catafalque/cost"
)

// most is the greatest cost that there is.
const most = 65535

// still are ways that are none: who goes so far is where it was.
var still = []int{math.MinInt, math.MinInt + 1, -1<<32 - 1, -1 << 32, -1<<32 + 1, -most - 1, -most, -3, -2, -1, 0}

// wide are ways that are as great as the greatest cost, or greater; of some of
// them others are left when they are cut down to fewer bits.
var wide = []int{most, most + 1, most + 2, 1 << 17, 1<<31 - 1, 1 << 31, 1 << 32, 1<<32 + 1, 1<<53 + 1, math.MaxInt - most, math.MaxInt - 1, math.MaxInt}

// beyond are numbers that neither a Far nor Moves may be.
var beyond = []int{math.MinInt, math.MinInt + 1, math.MinInt + most, -1 << 32, -1<<32 + 1, -most, -2, -1, most + 1, most + 2, 1 << 31, 1 << 32, 1<<32 + 1, math.MaxInt - 1, math.MaxInt}

// capped is a number, but the greatest cost, if it is above that.
func capped(n int) int {
	if n > most {
		return most
	}
	return n
}

// ways is what moves should cost: how many of them are above 0, and all of
// these laid together, each cut down so far that they can't be too much.
func ways(l []int) cost.Cost {
	far, moves := 0, 0
	for _, n := range l {
		if n > 0 {
			far += capped(n)
			moves++
		}
	}
	return cost.Cost{Far: capped(far), Moves: capped(moves)}
}

// some are Costs that may be, of all kinds.
func some() []cost.Cost {
	var l []cost.Cost
	steps := []int{0, 1, 2, 3, 1000, 32767, 32768, most - 3, most - 2, most - 1, most}
	for _, far := range steps {
		for _, moves := range steps {
			if moves <= far {
				l = append(l, cost.Cost{Far: far, Moves: moves})
			}
		}
	}
	return l
}

// is holds a Cost against the one that it should be.
func is(t *testing.T, what string, c, want cost.Cost) {
	t.Helper()
	if c != want {
		t.Errorf("%s is %v, not %v", what, c, want)
	}
	if !cost.May(c) {
		t.Errorf("%s is %v, which may not be", what, c)
	}
}

// sums holds the Sum of ways against what they should cost, and against the
// Adds one by one; the ways stay as they were.
func sums(t *testing.T, l ...int) {
	t.Helper()
	kept := slices.Clone(l)
	c := cost.Sum(l...)
	if !slices.Equal(l, kept) {
		t.Fatalf("Sum(%v) left %v", kept, l)
	}
	var one cost.Cost
	for _, far := range l {
		one = cost.Add(one, far)
	}
	if want := ways(l); c != want || one != want {
		t.Fatalf("Sum(%v) is %v, added one by one it is %v, not %v", l, c, one, want)
	}
	if !cost.May(c) {
		t.Fatalf("Sum(%v) is %v, which may not be", l, c)
	}
}

// parts holds the Join of two Costs against the Sum of all their ways, parted
// at that place, whichever is first.
func parts(t *testing.T, l []int, at int) {
	t.Helper()
	a, b, all := cost.Sum(l[:at]...), cost.Sum(l[at:]...), cost.Sum(l...)
	if c, d := cost.Join(a, b), cost.Join(b, a); c != all || d != all {
		t.Fatalf("Join(%v, %v) is %v, turned round %v, not %v", a, b, c, d, all)
	}
}

// times is one way so many times.
func times(n, far int) []int {
	return slices.Repeat([]int{far}, n)
}

// turns are all turns in which some ways may come.
func turns(l []int) [][]int {
	if len(l) == 0 {
		return [][]int{nil}
	}
	var all [][]int
	for k, n := range l {
		for _, rest := range turns(slices.Delete(slices.Clone(l), k, k+1)) {
			all = append(all, append([]int{n}, rest...))
		}
	}
	return all
}

// mixer tells numbers in a turn that looks like none, the same each time.
type mixer uint32

// below is a number from 0 to k - 1.
func (m *mixer) below(k int) int {
	*m = *m*1664525 + 1013904223
	return int(*m>>8) % k
}

// row is a row of ways of all kinds: ordinary, wide, and such that are none.
func (m *mixer) row(n int) []int {
	l := make([]int, n)
	for k := range l {
		switch m.below(8) {
		case 0:
			l[k] = still[m.below(len(still))]
		case 1:
			l[k] = m.below(most / 4)
		case 2:
			if m.below(20) == 0 {
				l[k] = wide[m.below(len(wide))]
			}
		default:
			l[k] = m.below(4)
		}
	}
	return l
}

// mixed are the same ways in a turn that looks like none.
func (m *mixer) mixed(l []int) []int {
	l = slices.Clone(l)
	for k := range l {
		j := m.below(k + 1)
		l[k], l[j] = l[j], l[k]
	}
	return l
}
