package heap_test

import (
	"math"
	"slices"
	"testing"

	"catafalque/heap"
)

// The document's example.
func TestExample(t *testing.T) {
	h := &heap.Heap{}
	h.Push(at(5, 0, 1))
	h.Push(at(3, 0, 2))
	if x, ok := h.First(); x != at(3, 0, 2) || !ok {
		t.Errorf("First() is %v, %t", x, ok)
	}
}

// P12.1: by When, then Seq, then G, whatever the others are.
func TestCompare(t *testing.T) {
	for _, c := range []struct {
		a, b heap.Timer
		want int
	}{
		{at(0, 0, 0), at(0, 0, 0), 0},
		{at(3, 2, 1), at(3, 2, 1), 0},
		{at(math.MinInt64, math.MaxInt64, math.MinInt), at(math.MinInt64, math.MaxInt64, math.MinInt), 0},
		// By When.
		{at(1, 0, 0), at(2, 0, 0), -1},
		{at(1, 9, 9), at(2, 0, 0), -1},
		{at(1, math.MaxInt64, math.MaxInt), at(2, math.MinInt64, math.MinInt), -1},
		{at(math.MinInt64, 0, 0), at(math.MaxInt64, 0, 0), -1},
		{at(-1, 0, 0), at(math.MaxInt64, 0, 0), -1},
		{at(math.MinInt64, 0, 0), at(1, 0, 0), -1},
		{at(math.MaxInt64-1, 5, 5), at(math.MaxInt64, 4, 4), -1},
		{at(1<<53, 0, 0), at(1<<53+1, 0, 0), -1},
		{at(1, 0, 0), at(1<<32, 0, 0), -1},
		// By Seq.
		{at(4, 1, 0), at(4, 2, 0), -1},
		{at(4, 1, 9), at(4, 2, 0), -1},
		{at(-4, math.MinInt64, math.MaxInt), at(-4, math.MaxInt64, math.MinInt), -1},
		{at(0, -1, 0), at(0, math.MaxInt64, 0), -1},
		{at(0, math.MinInt64, 0), at(0, 1, 0), -1},
		{at(0, 1<<53, 0), at(0, 1<<53+1, 0), -1},
		// By G.
		{at(4, 6, 1), at(4, 6, 2), -1},
		{at(4, 6, -2), at(4, 6, -1), -1},
		{at(4, 6, -1), at(4, 6, 0), -1},
		{at(4, 6, 1), at(4, 6, 257), -1},
		{at(4, 6, math.MinInt), at(4, 6, math.MaxInt), -1},
		{at(4, 6, -1), at(4, 6, math.MaxInt), -1},
		{at(4, 6, math.MinInt), at(4, 6, 1), -1},
	} {
		if is := heap.Compare(c.a, c.b); is != c.want {
			t.Errorf("Compare(%v, %v) is %d, not %d", c.a, c.b, is, c.want)
		}
		if is := heap.Compare(c.b, c.a); is != -c.want {
			t.Errorf("Compare(%v, %v) is %d, not %d", c.b, c.a, is, -c.want)
		}
	}
}

// P12.1: all of some timers held against each other; these rise.
func TestCompareAll(t *testing.T) {
	var l []heap.Timer
	for _, when := range whens {
		for _, seq := range []int64{math.MinInt64, -1, 0, 1, math.MaxInt64} {
			for _, g := range []int{math.MinInt, -1, 0, 1, 64, math.MaxInt} {
				l = append(l, at(when, seq, g))
			}
		}
	}
	for i, a := range l {
		for j, b := range l {
			want := 0
			if i < j {
				want = -1
			} else if i > j {
				want = 1
			}
			if is := heap.Compare(a, b); is != want {
				t.Fatalf("Compare(%v, %v) is %d, not %d", a, b, is, want)
			}
		}
	}
}

// P12.1, P12.2: a zero Heap has no timers, however often it is asked.
func TestZero(t *testing.T) {
	var h heap.Heap
	n := &timers{}
	for range 3 {
		holds(t, &h, n)
		pops(t, &h, n)
		for _, g := range odd {
			drops(t, &h, n, g)
		}
	}
	pushes(t, &h, n, at(0, 0, 0))
	empties(t, &h, n)
}

// P12.2: of a Heap that is nil: nothing is pushed, none, false, 0.
func TestNil(t *testing.T) {
	var h *heap.Heap
	for range 2 {
		holds(t, h, &timers{})
		if x, ok := h.Pop(); x != (heap.Timer{}) || ok {
			t.Errorf("Pop() is %v, %t", x, ok)
		}
		for _, g := range odd {
			if k := h.Drop(g); k != 0 {
				t.Errorf("Drop(%d) is %d", g, k)
			}
			h.Push(at(1, 2, g))
		}
		h.Push(heap.Timer{})
	}
	holds(t, h, &timers{})
}

// P12.1: one timer, of whatever numbers, is in it till it is popped.
func TestOne(t *testing.T) {
	for _, when := range whens {
		for _, seq := range whens {
			for _, g := range odd {
				h, n := filled(t, at(when, seq, g))
				pops(t, h, n)
				pops(t, h, n)
				pushes(t, h, n, at(when, seq, g))
				drops(t, h, n, g)
				pops(t, h, n)
			}
		}
	}
}

// P12.1, P12.3: timers in rising, falling and mixed order; popped till there is
// none, and pushed again.
func TestOrders(t *testing.T) {
	for _, k := range []int{1, 2, 3, 4, 5, 6, 7, 8, 9, 15, 16, 17, 31, 32, 33, 63, 64, 65, 130} {
		for _, l := range orders(rising(k)) {
			h, n := filled(t, l...)
			empties(t, h, n)
			slices.Reverse(l)
			pushes(t, h, n, l...)
			empties(t, h, n)
		}
	}
}

// P12.1, P12.3: each order in which up to seven timers come.
func TestEveryOrder(t *testing.T) {
	for k := range 8 {
		everyOrder(rising(k), func(l []heap.Timer) {
			h := &heap.Heap{}
			for _, x := range l {
				h.Push(x)
			}
			for _, want := range rising(k) {
				first, is := h.First()
				x, ok := h.Pop()
				if x != want || !ok || first != want || !is {
					t.Fatalf("of %v First() is %v, %t, and Pop() %v, %t, not %v", l, first, is, x, ok, want)
				}
			}
			if x, ok := h.Pop(); x != (heap.Timer{}) || ok {
				t.Fatalf("of %v Pop() is %v, %t at last", l, x, ok)
			}
		})
	}
}

// P12.1, P12.3: timers alike but for When, for Seq, for G alone, in each order;
// with the least and the greatest there are.
func TestAlikeBut(t *testing.T) {
	for _, l := range [][]heap.Timer{
		{at(math.MinInt64, 4, 4), at(-1, 4, 4), at(0, 4, 4), at(1, 4, 4), at(math.MaxInt64, 4, 4)},
		{at(4, math.MinInt64, 4), at(4, -1, 4), at(4, 0, 4), at(4, 1, 4), at(4, math.MaxInt64, 4)},
		{at(4, 4, math.MinInt), at(4, 4, -1), at(4, 4, 0), at(4, 4, 1), at(4, 4, math.MaxInt)},
		{at(1, 9, 9), at(2, 8, 9), at(2, 9, 7), at(2, 9, 8), at(3, 0, 0)},
		{at(-3, 0, 5), at(-2, 0, 5), at(-2, 1, 5), at(-2, 1, 6), at(-1, -9, 1)},
	} {
		want := slices.Clone(l)
		everyOrder(l, func(l []heap.Timer) {
			h, n := filled(t, l...)
			if !slices.Equal(n.l, want) {
				t.Fatalf("%v", n.l)
			}
			empties(t, h, n)
		})
	}
}

// P12.1: a timer is in it as often as it is pushed, and popped once each time.
func TestVerySame(t *testing.T) {
	x, y := at(5, 2, 3), at(5, 2, 4)
	for _, l := range [][]heap.Timer{
		{x, x},
		{x, x, x},
		{x, y, x},
		{y, x, y, x, y},
		{x, at(1, 0, 0), x, at(9, 0, 0), x},
		{x, x, x, x, x, x, x, x, y, y, y},
		{{}, {}, {}},
	} {
		for _, l := range orders(l) {
			h, n := filled(t, l...)
			pops(t, h, n)
			pushes(t, h, n, l[0])
			empties(t, h, n)
		}
	}
	h, n := filled(t, slices.Repeat([]heap.Timer{x}, 100)...)
	pops(t, h, n)
	if h.Len() != 99 {
		t.Errorf("Len() is %d", h.Len())
	}
	drops(t, h, n, 4)
	drops(t, h, n, 3)
	drops(t, h, n, 3)
	empties(t, h, n)
}

// P12.1: one that is ahead of all, behind all, or between them, comes while
// others are there.
func TestFirst(t *testing.T) {
	h, n := filled(t, at(5, 0, 1))
	for _, c := range []struct {
		x, first heap.Timer
	}{
		{at(6, 0, 2), at(5, 0, 1)},
		{at(4, 9, 3), at(4, 9, 3)},
		{at(4, 9, 4), at(4, 9, 3)},
		{at(4, 9, 2), at(4, 9, 2)},
		{at(4, 8, 7), at(4, 8, 7)},
		{at(4, 8, 7), at(4, 8, 7)},
		{at(-4, 8, 7), at(-4, 8, 7)},
		{at(math.MaxInt64, 0, 0), at(-4, 8, 7)},
		{at(math.MinInt64, 0, 0), at(math.MinInt64, 0, 0)},
	} {
		pushes(t, h, n, c.x)
		if x, ok := h.First(); x != c.first || !ok {
			t.Fatalf("First() is %v, %t, not %v", x, ok, c.first)
		}
	}
	for _, want := range []heap.Timer{
		at(math.MinInt64, 0, 0), at(-4, 8, 7), at(4, 8, 7), at(4, 8, 7), at(4, 9, 2), at(4, 9, 3), at(4, 9, 4), at(5, 0, 1), at(6, 0, 2), at(math.MaxInt64, 0, 0),
	} {
		if x, ok := h.First(); x != want || !ok {
			t.Fatalf("First() is %v, %t, not %v", x, ok, want)
		}
		if x, ok := h.Pop(); x != want || !ok {
			t.Fatalf("Pop() is %v, %t, not %v", x, ok, want)
		}
	}
	if x, ok := h.First(); x != (heap.Timer{}) || ok {
		t.Fatalf("First() is %v, %t at last", x, ok)
	}
}

// P12.2: how many were dropped, by hand: none, one, some, all.
func TestDrop(t *testing.T) {
	l := []heap.Timer{at(1, 1, 7), at(2, 2, 8), at(2, 3, 7), at(3, 4, 9), at(4, 5, 7)}
	for _, c := range []struct {
		g, told int
		left    []heap.Timer
	}{
		{6, 0, l},
		{8, 1, []heap.Timer{l[0], l[2], l[3], l[4]}},
		{9, 1, []heap.Timer{l[0], l[1], l[2], l[4]}},
		{7, 3, []heap.Timer{l[1], l[3]}},
	} {
		for _, l := range orders(l) {
			h, _ := filled(t, l...)
			if k := h.Drop(c.g); k != c.told {
				t.Errorf("Drop(%d) is %d, not %d", c.g, k, c.told)
			}
			n := &timers{slices.Clone(c.left)}
			holds(t, h, n)
			if k := h.Drop(c.g); k != 0 {
				t.Errorf("Drop(%d) is %d the second time", c.g, k)
			}
			empties(t, h, n)
		}
	}
	h, n := filled(t, at(1, 0, 7), at(3, 0, 7), at(2, 0, 7), at(2, 0, 7))
	if k := h.Drop(7); k != 4 {
		t.Errorf("Drop(7) of 7 alone is %d", k)
	}
	n.l = nil
	empties(t, h, n)
}

// P12.2, P12.3: any of some timers are dropped, in whatever order they came; the
// rest is popped in order, and with others that are pushed behind the Drop.
func TestDropAny(t *testing.T) {
	const size = 8
	for mask := range 1 << size {
		l := rising(size)
		for k := range l {
			l[k].G = 1 + mask>>k&1
		}
		for _, l := range orders(l) {
			h, n := filled(t, l...)
			drops(t, h, n, 2)
			drops(t, h, n, 2)
			again, m := filled(t, n.l...)
			empties(t, again, m)
			pushes(t, h, n, at(1, 1, 2), at(-9, 1, 2), at(9, 1, 1))
			pops(t, h, n)
			drops(t, h, n, 1)
			empties(t, h, n)
		}
	}
}

// P12.2, P12.3: one G after the other is dropped of many.
func TestDropEach(t *testing.T) {
	for _, k := range []int{10, 40, 150} {
		for _, l := range orders(rising(k)) {
			for g := range 4 {
				h, n := filled(t, l...)
				for d := range 5 {
					drops(t, h, n, (g+d)%5)
					pops(t, h, n)
					pushes(t, h, n, at(int64(d), 0, g))
				}
				empties(t, h, n)
			}
		}
	}
}

// P12.2: a G that no timer has; its When and Seq are no G.
func TestDropNobody(t *testing.T) {
	h, n := filled(t, at(3, 30, 5), at(1, 10, 6), at(2, 20, 5), at(0, -1, 300))
	for _, g := range slices.Concat(odd, []int{0, 1, 2, 3, 10, 20, 30, -1, 4, 7, 44, 261, 1<<32 + 5, -5, -6}) {
		if k := h.Drop(g); k != 0 {
			t.Errorf("Drop(%d) is %d", g, k)
		}
		holds(t, h, n)
	}
	empties(t, h, n)
}

// P12.1, P12.2: numbers of 0 and below, and the least and the greatest, are Gs
// as others are.
func TestOddNumbers(t *testing.T) {
	var l []heap.Timer
	for k, g := range odd {
		l = append(l, at(whens[k%len(whens)], int64(k%3), g), at(0, 0, g))
	}
	for _, l := range orders(l) {
		h, n := filled(t, l...)
		empties(t, h, n)
		pushes(t, h, n, l...)
		for _, g := range odd {
			if k := h.Drop(g); k != 2 {
				t.Fatalf("Drop(%d) is %d", g, k)
			}
			n.drop(g)
			holds(t, h, n)
		}
		empties(t, h, n)
	}
}

// P12.3: pushed again behind a Drop of all, and when all were popped.
func TestAgain(t *testing.T) {
	h, n := filled(t)
	for k := range 20 {
		for _, l := range orders(rising(k)) {
			pushes(t, h, n, l...)
			for g := range 4 {
				drops(t, h, n, g)
			}
			pops(t, h, n)
			pushes(t, h, n, l...)
			empties(t, h, n)
		}
	}
}

// P12.1 to P12.3: each row of six calls, out of seven.
func TestEveryRow(t *testing.T) {
	const calls, long = 7, 6
	rows := 1
	for range long {
		rows *= calls
	}
	for row := range rows {
		h, n := &heap.Heap{}, &timers{}
		for x := row + rows; x >= calls; x /= calls {
			switch x % calls {
			case 0:
				pops(t, h, n)
			case 1, 2:
				drops(t, h, n, x%calls)
			default:
				pushes(t, h, n, at(int64(x%calls/2), int64(x%calls%3), 1+x%calls%2))
			}
		}
		empties(t, h, n)
	}
}

// P12.1 to P12.3: long rows of calls, mixed, of many timers that are often
// alike.
func TestMixed(t *testing.T) {
	for seed := range 40 {
		m := mixer(seed)
		h, n := &heap.Heap{}, &timers{}
		for range 600 {
			switch k := m.below(100); {
			case k < 28:
				pops(t, h, n)
			case k < 30:
				drops(t, h, n, m.below(8))
			default:
				pushes(t, h, n, at(int64(m.below(20)-10), int64(m.below(4)), m.below(8)))
			}
		}
		empties(t, h, n)
	}
}

// P12.3: many timers, all of whom come out in order.
func TestMany(t *testing.T) {
	m := mixer(11)
	h := &heap.Heap{}
	var l []heap.Timer
	for k := range 5000 {
		x := at(int64(m.below(900)), int64(k), m.below(64))
		h.Push(x)
		l = append(l, x)
	}
	slices.SortFunc(l, func(a, b heap.Timer) int {
		if ahead(a, b) {
			return -1
		}
		return 1
	})
	if h.Len() != 5000 || !slices.Equal(h.All(), l) {
		t.Fatalf("Len() is %d", h.Len())
	}
	for k, want := range l {
		if x, ok := h.Pop(); x != want || !ok || h.Len() != 4999-k {
			t.Fatalf("Pop() is %v, %t, not %v", x, ok, want)
		}
	}
}

// R3: what All tells is shared with nothing that changes, on neither side.
func TestAllApart(t *testing.T) {
	h, n := filled(t, orders(rising(9))[3]...)
	l, kept := h.All(), slices.Clone(n.l)
	for k := range l {
		l[k] = at(-100, 0, 77)
	}
	_ = append(l[:0], at(-101, 0, 78), at(-102, 0, 79))
	holds(t, h, n)
	l = h.All()
	pops(t, h, n)
	drops(t, h, n, 1)
	pushes(t, h, n, at(-50, 0, 5), at(50, 0, 5))
	if !slices.Equal(l, kept) {
		t.Errorf("All() was %v, and is %v", kept, l)
	}
	empties(t, h, n)
	if !slices.Equal(l, kept) {
		t.Errorf("All() was %v, and is %v", kept, l)
	}
}

// R4: what is kept is kept in its own heap.
func TestHeapsApart(t *testing.T) {
	a, m := filled(t, at(1, 0, 1), at(2, 0, 2))
	b, n := filled(t)
	pushes(t, b, n, at(0, 0, 1), at(3, 0, 2))
	holds(t, a, m)
	drops(t, a, m, 2)
	holds(t, b, n)
	pops(t, b, n)
	holds(t, a, m)
	empties(t, a, m)
	empties(t, b, n)
}
