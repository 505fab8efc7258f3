package cost_test

import (
	"fmt"
	"math"
	"slices"
	"testing"

	"catafalque/cost"
)

// The document's example.
func TestExample(t *testing.T) {
	is(t, "Sum(1, 0, 3)", cost.Sum(1, 0, 3), cost.Cost{Far: 4, Moves: 2})
}

// P14.1: one way more, of ordinary ones and at the edges.
func TestAdd(t *testing.T) {
	for _, x := range []struct {
		c    cost.Cost
		far  int
		want cost.Cost
	}{
		{cost.Cost{}, 0, cost.Cost{}},
		{cost.Cost{}, 1, cost.Cost{Far: 1, Moves: 1}},
		{cost.Cost{}, 2, cost.Cost{Far: 2, Moves: 1}},
		{cost.Cost{}, 3, cost.Cost{Far: 3, Moves: 1}},
		{cost.Cost{Far: 3, Moves: 1}, 0, cost.Cost{Far: 3, Moves: 1}},
		{cost.Cost{Far: 3, Moves: 1}, 1, cost.Cost{Far: 4, Moves: 2}},
		{cost.Cost{Far: 3, Moves: 3}, 2, cost.Cost{Far: 5, Moves: 4}},
		{cost.Cost{Far: 9, Moves: 0}, 1, cost.Cost{Far: 10, Moves: 1}},
		{cost.Cost{Far: 500, Moves: 200}, 60000, cost.Cost{Far: 60500, Moves: 201}},
		{cost.Cost{Far: 65533, Moves: 2}, 1, cost.Cost{Far: 65534, Moves: 3}},
		{cost.Cost{Far: 65534, Moves: 2}, 1, cost.Cost{Far: 65535, Moves: 3}},
		{cost.Cost{Far: 65534, Moves: 2}, 2, cost.Cost{Far: 65535, Moves: 3}},
		{cost.Cost{Far: 65535, Moves: 2}, 1, cost.Cost{Far: 65535, Moves: 3}},
		{cost.Cost{Far: 65535, Moves: 2}, 0, cost.Cost{Far: 65535, Moves: 2}},
		{cost.Cost{Far: 65535, Moves: 65533}, 1, cost.Cost{Far: 65535, Moves: 65534}},
		{cost.Cost{Far: 65535, Moves: 65534}, 1, cost.Cost{Far: 65535, Moves: 65535}},
		{cost.Cost{Far: 65535, Moves: 65535}, 1, cost.Cost{Far: 65535, Moves: 65535}},
		{cost.Cost{Far: 65535, Moves: 65535}, 0, cost.Cost{Far: 65535, Moves: 65535}},
		{cost.Cost{Far: 65534, Moves: 65534}, 1, cost.Cost{Far: 65535, Moves: 65535}},
		{cost.Cost{}, 65534, cost.Cost{Far: 65534, Moves: 1}},
		{cost.Cost{}, 65535, cost.Cost{Far: 65535, Moves: 1}},
		{cost.Cost{}, 65536, cost.Cost{Far: 65535, Moves: 1}},
		{cost.Cost{Far: 1}, 65534, cost.Cost{Far: 65535, Moves: 1}},
		{cost.Cost{Far: 1}, 65535, cost.Cost{Far: 65535, Moves: 1}},
	} {
		is(t, fmt.Sprintf("Add(%v, %d)", x.c, x.far), cost.Add(x.c, x.far), x.want)
	}
}

// P14.1: who goes no way has the Cost that it had.
func TestAddStill(t *testing.T) {
	for _, c := range some() {
		for _, far := range still {
			is(t, fmt.Sprintf("Add(%v, %d)", c, far), cost.Add(c, far), c)
		}
	}
}

// P14.1: a way that is as great as the greatest cost, or greater, is one move,
// and no farther than that, whatever came ahead.
func TestAddWide(t *testing.T) {
	for _, c := range some() {
		for _, far := range wide {
			want := cost.Cost{Far: most, Moves: min(c.Moves+1, most)}
			is(t, fmt.Sprintf("Add(%v, %d)", c, far), cost.Add(c, far), want)
		}
	}
}

// P14.1: each way up to the greatest cost and somewhat beyond, behind Costs of
// all kinds.
func TestAddEach(t *testing.T) {
	for _, c := range some() {
		for far := 1; far < 2*most; far += 7 {
			want := cost.Cost{Far: capped(c.Far + far), Moves: capped(c.Moves + 1)}
			if is := cost.Add(c, far); is != want || !cost.May(is) {
				t.Fatalf("Add(%v, %d) is %v, not %v", c, far, is, want)
			}
		}
	}
}

// P14.1: the Sum of none, of one, of some.
func TestSum(t *testing.T) {
	is(t, "Sum()", cost.Sum(), cost.Cost{})
	is(t, "Sum(nil)", cost.Sum(nil...), cost.Cost{})
	is(t, "Sum of an empty list", cost.Sum([]int{}...), cost.Cost{})
	for _, x := range []struct {
		l    []int
		want cost.Cost
	}{
		{[]int{0}, cost.Cost{}},
		{[]int{1}, cost.Cost{Far: 1, Moves: 1}},
		{[]int{3}, cost.Cost{Far: 3, Moves: 1}},
		{[]int{1, 1}, cost.Cost{Far: 2, Moves: 2}},
		{[]int{0, 0, 0}, cost.Cost{}},
		{[]int{3, 2, 1}, cost.Cost{Far: 6, Moves: 3}},
		{[]int{0, 3, 0, 2, 0}, cost.Cost{Far: 5, Moves: 2}},
		{[]int{65534, 1}, cost.Cost{Far: 65535, Moves: 2}},
		{[]int{65534, 1, 1}, cost.Cost{Far: 65535, Moves: 3}},
		{[]int{65535, 65535}, cost.Cost{Far: 65535, Moves: 2}},
		{[]int{65536, 0, 3}, cost.Cost{Far: 65535, Moves: 2}},
		{[]int{40000, 40000, 40000}, cost.Cost{Far: 65535, Moves: 3}},
		{[]int{math.MaxInt, math.MaxInt, 1}, cost.Cost{Far: 65535, Moves: 3}},
	} {
		is(t, fmt.Sprintf("Sum(%v)", x.l), cost.Sum(x.l...), x.want)
		sums(t, x.l...)
	}
}

// P14.1: the Sum of many is as far as Far and Moves go, and no farther.
func TestSumMany(t *testing.T) {
	for _, n := range []int{1, 2, 1000, most - 1, most, most + 1, most + 2, 2*most + 1, 2*most + 2, 3 * most} {
		is(t, fmt.Sprintf("Sum of %d of 1", n), cost.Sum(times(n, 1)...), cost.Cost{Far: capped(n), Moves: capped(n)})
		is(t, fmt.Sprintf("Sum of %d of 3", n), cost.Sum(times(n, 3)...), cost.Cost{Far: capped(3 * n), Moves: capped(n)})
		is(t, fmt.Sprintf("Sum of %d of 0", n), cost.Sum(times(n, 0)...), cost.Cost{})
		is(t, fmt.Sprintf("Sum of %d of the greatest int", n), cost.Sum(times(n, math.MaxInt)...), cost.Cost{Far: most, Moves: capped(n)})
	}
}

// P14.1: ways that are none, alone and among others, cost nothing.
func TestSumStill(t *testing.T) {
	is(t, "Sum of none that is one", cost.Sum(still...), cost.Cost{})
	for _, n := range still {
		is(t, fmt.Sprintf("Sum(%d)", n), cost.Sum(n), cost.Cost{})
		is(t, fmt.Sprintf("Sum(%d, 2, %d, 3, %d)", n, n, n), cost.Sum(n, 2, n, 3, n), cost.Cost{Far: 5, Moves: 2})
		is(t, fmt.Sprintf("Sum(65535, %d)", n), cost.Sum(most, n), cost.Cost{Far: most, Moves: 1})
		for _, far := range wide {
			sums(t, n, far, n, far, 1)
		}
	}
}

// P14.1: rows of ways of all kinds, held against the Adds one by one.
func TestSumMixed(t *testing.T) {
	for seed := range 300 {
		m := mixer(seed)
		sums(t, m.row(m.below(60))...)
	}
}

// P14.1: two Costs together, of ordinary ones and at the edges.
func TestJoin(t *testing.T) {
	for _, x := range []struct{ a, b, want cost.Cost }{
		{cost.Cost{}, cost.Cost{}, cost.Cost{}},
		{cost.Cost{Far: 4, Moves: 2}, cost.Cost{}, cost.Cost{Far: 4, Moves: 2}},
		{cost.Cost{Far: 4, Moves: 2}, cost.Cost{Far: 7, Moves: 5}, cost.Cost{Far: 11, Moves: 7}},
		{cost.Cost{Far: 4, Moves: 0}, cost.Cost{Far: 1, Moves: 1}, cost.Cost{Far: 5, Moves: 1}},
		{cost.Cost{Far: 65534, Moves: 9}, cost.Cost{Far: 1, Moves: 1}, cost.Cost{Far: 65535, Moves: 10}},
		{cost.Cost{Far: 65535, Moves: 9}, cost.Cost{Far: 1, Moves: 1}, cost.Cost{Far: 65535, Moves: 10}},
		{cost.Cost{Far: 32768, Moves: 32768}, cost.Cost{Far: 32767, Moves: 32767}, cost.Cost{Far: 65535, Moves: 65535}},
		{cost.Cost{Far: 32768, Moves: 32767}, cost.Cost{Far: 32768, Moves: 32767}, cost.Cost{Far: 65535, Moves: 65534}},
		{cost.Cost{Far: 32768, Moves: 32768}, cost.Cost{Far: 32768, Moves: 32768}, cost.Cost{Far: 65535, Moves: 65535}},
		{cost.Cost{Far: 65535, Moves: 65534}, cost.Cost{Far: 65535, Moves: 1}, cost.Cost{Far: 65535, Moves: 65535}},
		{cost.Cost{Far: 65535, Moves: 65535}, cost.Cost{}, cost.Cost{Far: 65535, Moves: 65535}},
		{cost.Cost{Far: 65535, Moves: 65535}, cost.Cost{Far: 1, Moves: 1}, cost.Cost{Far: 65535, Moves: 65535}},
		{cost.Cost{Far: 65535, Moves: 65535}, cost.Cost{Far: 65535, Moves: 65535}, cost.Cost{Far: 65535, Moves: 65535}},
	} {
		is(t, fmt.Sprintf("Join(%v, %v)", x.a, x.b), cost.Join(x.a, x.b), x.want)
		is(t, fmt.Sprintf("Join(%v, %v)", x.b, x.a), cost.Join(x.b, x.a), x.want)
	}
}

// P14.1: Costs of all kinds, each with each.
func TestJoinEach(t *testing.T) {
	for _, a := range some() {
		for _, b := range some() {
			want := cost.Cost{Far: capped(a.Far + b.Far), Moves: capped(a.Moves + b.Moves)}
			is(t, fmt.Sprintf("Join(%v, %v)", a, b), cost.Join(a, b), want)
		}
	}
}

// P14.1, P14.2: ways parted anywhere cost together what they all cost.
func TestParted(t *testing.T) {
	rows := [][]int{
		nil, {0}, {1}, {1, 0, 3}, {65534, 1, 1}, {65535, 65535, 2}, {32768, 32767, 1, 1},
		{math.MaxInt, math.MinInt, 1, math.MaxInt}, {-1, 2, 0, 3, -7}, {65536, 65536},
	}
	for seed := range 100 {
		m := mixer(seed)
		rows = append(rows, m.row(m.below(40)))
	}
	for _, l := range rows {
		for at := range len(l) + 1 {
			parts(t, l, at)
		}
	}
	for _, far := range []int{1, 2, 3} {
		for _, at := range []int{0, 1, most/3 - 1, most / 3, most / 2, most - 1, most, most + 1, 2 * most} {
			parts(t, times(2*most, far), at)
		}
	}
}

// P14.1: Far and Moves each from 0 to the greatest cost, and Far not below.
func TestMay(t *testing.T) {
	for _, x := range []struct {
		c   cost.Cost
		may bool
	}{
		{cost.Cost{}, true},
		{cost.Cost{Far: 1}, true},
		{cost.Cost{Far: 1, Moves: 1}, true},
		{cost.Cost{Moves: 1}, false},
		{cost.Cost{Far: 4, Moves: 2}, true},
		{cost.Cost{Far: 7, Moves: 7}, true},
		{cost.Cost{Far: 6, Moves: 7}, false},
		{cost.Cost{Far: 7, Moves: 6}, true},
		{cost.Cost{Far: 65535}, true},
		{cost.Cost{Far: 65536}, false},
		{cost.Cost{Moves: 65535}, false},
		{cost.Cost{Far: 65534, Moves: 65534}, true},
		{cost.Cost{Far: 65534, Moves: 65535}, false},
		{cost.Cost{Far: 65535, Moves: 65534}, true},
		{cost.Cost{Far: 65535, Moves: 65535}, true},
		{cost.Cost{Far: 65535, Moves: 65536}, false},
		{cost.Cost{Far: 65536, Moves: 65535}, false},
		{cost.Cost{Far: 65536, Moves: 65536}, false},
		{cost.Cost{Far: 65536, Moves: 1}, false},
		{cost.Cost{Far: 0, Moves: -1}, false},
		{cost.Cost{Far: -1, Moves: 0}, false},
		{cost.Cost{Far: -1, Moves: -1}, false},
		{cost.Cost{Far: -1, Moves: -2}, false},
	} {
		if may := cost.May(x.c); may != x.may {
			t.Errorf("May(%v) is %t", x.c, may)
		}
	}
	for _, c := range some() {
		if !cost.May(c) {
			t.Errorf("May(%v) is false", c)
		}
		if c.Moves < c.Far && cost.May(cost.Cost{Far: c.Moves, Moves: c.Far}) {
			t.Errorf("May of %v turned round is true", c)
		}
	}
}

// P14.1, R5: of a number that is none of theirs no Cost may be.
func TestMayBeyond(t *testing.T) {
	for _, n := range beyond {
		for _, k := range slices.Concat(beyond, []int{0, 1, 2, 1000, most - 1, most}) {
			for _, c := range []cost.Cost{{Far: n, Moves: k}, {Far: k, Moves: n}} {
				if cost.May(c) {
					t.Errorf("May(%v) is true", c)
				}
			}
		}
	}
}

// P1, R5: of Costs that may not be nothing is promised but that there is an
// answer, and without a way it is they.
func TestBeyond(t *testing.T) {
	for _, n := range beyond {
		for _, k := range beyond {
			c := cost.Cost{Far: n, Moves: k}
			for _, far := range still {
				if is := cost.Add(c, far); is != c {
					t.Errorf("Add(%v, %d) is %v", c, far, is)
				}
			}
			for _, far := range wide {
				_ = cost.Add(c, far)
				_ = cost.Join(c, cost.Cost{Far: far, Moves: n})
			}
		}
	}
}

// P14.2: Costs never fall, whatever comes.
func TestNeverFall(t *testing.T) {
	for _, c := range some() {
		for _, far := range slices.Concat(still, wide, []int{1, 2, 3, 1000, most - 1}) {
			if is := cost.Add(c, far); is.Far < c.Far || is.Moves < c.Moves {
				t.Errorf("Add(%v, %d) is %v", c, far, is)
			}
		}
		for _, b := range some() {
			if is := cost.Join(c, b); is.Far < max(c.Far, b.Far) || is.Moves < max(c.Moves, b.Moves) {
				t.Errorf("Join(%v, %v) is %v", c, b, is)
			}
		}
	}
	for seed := range 100 {
		m := mixer(seed)
		var last cost.Cost
		for _, far := range m.row(200) {
			c := cost.Add(last, far)
			if c.Far < last.Far || c.Moves < last.Moves || !cost.May(c) {
				t.Fatalf("Add(%v, %d) is %v", last, far, c)
			}
			last = c
		}
	}
}

// P14.2: in whatever turn moves come, they cost the same.
func TestTurns(t *testing.T) {
	for _, l := range [][]int{
		{1, 2, 3}, {1, 0, 3, 1}, {65534, 1, 1, 2}, {65535, 1, -1, 3}, {0, math.MinInt, 2, math.MaxInt, 1},
		{30000, 30000, 5535, 1}, {30000, 30000, 5534, 0}, {math.MaxInt, math.MaxInt, 1, -3, 65536},
	} {
		for _, turn := range turns(l) {
			is(t, fmt.Sprintf("Sum(%v)", turn), cost.Sum(turn...), ways(l))
		}
	}
	for seed := range 100 {
		m := mixer(seed)
		l := m.row(m.below(60))
		for range 10 {
			turn := m.mixed(l)
			is(t, fmt.Sprintf("Sum(%v)", turn), cost.Sum(turn...), cost.Sum(l...))
		}
	}
}

// P14.2: as long as it is below the greatest cost, Far is all ways together.
func TestTogether(t *testing.T) {
	for seed := range 100 {
		m := mixer(seed)
		var c cost.Cost
		far, moves := 0, 0
		for far < most {
			n := m.below(1 + m.below(2000))
			if n > 0 {
				far, moves = far+n, moves+1
			}
			c = cost.Add(c, n)
			if far < most && c != (cost.Cost{Far: far, Moves: moves}) {
				t.Fatalf("of %d ways, %d together, Add is %v", moves, far, c)
			}
		}
		is(t, "a Cost beyond the greatest", c, cost.Cost{Far: most, Moves: moves})
	}
}

// R3: the ways that are handed in stay as they were, and a Cost that is told
// hangs on them no more.
func TestHandedIn(t *testing.T) {
	l := []int{3, 0, -1, 65536, 2, math.MinInt, math.MaxInt, 1}
	kept := slices.Clone(l)
	c := cost.Sum(l[:5]...)
	if !slices.Equal(l, kept) {
		t.Errorf("Sum left %v", l)
	}
	d := c
	clear(l)
	is(t, "a Cost that was told", c, cost.Cost{Far: most, Moves: 3})
	cost.Add(d, 1)
	cost.Join(d, d)
	is(t, "a Cost that was handed in", d, c)
}

// R4: nothing is kept between calls.
func TestKeepsNothing(t *testing.T) {
	for range 3 {
		is(t, "Sum(2, 3)", cost.Sum(2, 3), cost.Cost{Far: 5, Moves: 2})
		is(t, "Sum()", cost.Sum(), cost.Cost{})
		is(t, "Add", cost.Add(cost.Cost{Far: 2, Moves: 1}, 3), cost.Cost{Far: 5, Moves: 2})
		is(t, "Join", cost.Join(cost.Cost{Far: 2, Moves: 1}, cost.Cost{Far: 3, Moves: 1}), cost.Cost{Far: 5, Moves: 2})
	}
}
