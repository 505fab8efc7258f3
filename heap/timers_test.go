package heap_test

import (
	"math"
	"slices"
	"testing"

	"catafalque/heap"
)

// whens are Whens and Seqs, from the least to the greatest: next to 0, to the
// bounds, and such as cut down to 32 bits, or to a float's, would be another one.
var whens = []int64{
	math.MinInt64, math.MinInt64 + 1, -1<<53 - 1, -1 << 53, -1 << 32, -1 << 31, -1, 0, 1,
	1<<31 - 1, 1 << 32, 1<<32 + 1, 1 << 53, 1<<53 + 1, math.MaxInt64 - 1, math.MaxInt64,
}

// odd are numbers of Gs, from the least to the greatest.
var odd = []int{
	math.MinInt, math.MinInt + 1, -1 << 32, -256, -64, -2, -1, 0, 1, 2, 64, 65, 256, 257, 1 << 32, 1<<32 + 1, math.MaxInt - 1, math.MaxInt,
}

// at is a timer.
func at(when, seq int64, g int) heap.Timer {
	return heap.Timer{When: when, Seq: seq, G: g}
}

// ahead tells whether one timer is ahead of another one.
func ahead(a, b heap.Timer) bool {
	if a.When != b.When {
		return a.When < b.When
	}
	if a.Seq != b.Seq {
		return a.Seq < b.Seq
	}
	return a.G < b.G
}

// timers are what a heap should hold, from the least one on.
type timers struct {
	l []heap.Timer
}

// push puts one in, right behind those that aren't behind it.
func (n *timers) push(t heap.Timer) {
	k := 0
	for k < len(n.l) && !ahead(t, n.l[k]) {
		k++
	}
	n.l = slices.Insert(n.l, k, t)
}

// first is what First should tell.
func (n *timers) first() (heap.Timer, bool) {
	if len(n.l) == 0 {
		return heap.Timer{}, false
	}
	return n.l[0], true
}

// pop is what Pop should tell.
func (n *timers) pop() (heap.Timer, bool) {
	t, ok := n.first()
	if ok {
		n.l = slices.Delete(n.l, 0, 1)
	}
	return t, ok
}

// drop is what Drop should tell.
func (n *timers) drop(g int) int {
	var left []heap.Timer
	for _, t := range n.l {
		if t.G != g {
			left = append(left, t)
		}
	}
	had := len(n.l)
	n.l = left
	return had - len(left)
}

// holds asks a heap for all that it tells of its timers, which should be these,
// twice: it stays as it is then.
func holds(t *testing.T, h *heap.Heap, n *timers) {
	t.Helper()
	for range 2 {
		if k := h.Len(); k != len(n.l) {
			t.Fatalf("Len() is %d, not %d", k, len(n.l))
		}
		want, may := n.first()
		if x, ok := h.First(); x != want || ok != may {
			t.Fatalf("First() is %v, %t, not %v, %t", x, ok, want, may)
		}
		if l := h.All(); !slices.Equal(l, n.l) {
			t.Fatalf("All() is %v, not %v", l, n.l)
		}
	}
}

// pushes puts timers into a heap, and beside it.
func pushes(t *testing.T, h *heap.Heap, n *timers, l ...heap.Timer) {
	t.Helper()
	for _, x := range l {
		h.Push(x)
		n.push(x)
		holds(t, h, n)
	}
}

// pops takes a timer out of a heap, and out of those beside it, which should
// tell the same.
func pops(t *testing.T, h *heap.Heap, n *timers) {
	t.Helper()
	want, may := n.pop()
	if x, ok := h.Pop(); x != want || ok != may {
		t.Fatalf("Pop() is %v, %t, not %v, %t", x, ok, want, may)
	}
	holds(t, h, n)
}

// drops takes all of a G out of a heap, and out of those beside it, which should
// tell the same.
func drops(t *testing.T, h *heap.Heap, n *timers, g int) {
	t.Helper()
	want := n.drop(g)
	if k := h.Drop(g); k != want {
		t.Fatalf("Drop(%d) is %d, not %d", g, k, want)
	}
	holds(t, h, n)
}

// empties pops till there is none, and twice more.
func empties(t *testing.T, h *heap.Heap, n *timers) {
	t.Helper()
	for range len(n.l) + 2 {
		pops(t, h, n)
	}
}

// filled is a heap into which timers were pushed, and they beside it.
func filled(t *testing.T, l ...heap.Timer) (*heap.Heap, *timers) {
	t.Helper()
	h, n := &heap.Heap{}, &timers{}
	pushes(t, h, n, l...)
	return h, n
}

// rising are timers of rising Whens, whose Seqs and Gs don't rise.
func rising(k int) []heap.Timer {
	l := make([]heap.Timer, k)
	for i := range l {
		l[i] = at(int64(i)-3, int64(7*i%5), i%4)
	}
	return l
}

// mixer tells numbers in a turn that looks like none, the same each time.
type mixer uint32

// below is a number from 0 to k - 1.
func (m *mixer) below(k int) int {
	*m = *m*1664525 + 1013904223
	return int(*m>>8) % k
}

// orders are some in which timers come: as they are, the other way round,
// crosswise, and mixed.
func orders(l []heap.Timer) [][]heap.Timer {
	falling, cross, mixed := slices.Clone(l), slices.Clone(l), slices.Clone(l)
	slices.Reverse(falling)
	for k := range l {
		cross[k] = l[k/2]
		if k%2 == 1 {
			cross[k] = l[len(l)-1-k/2]
		}
	}
	m := mixer(7)
	for k := range mixed {
		j := k + m.below(len(mixed)-k)
		mixed[k], mixed[j] = mixed[j], mixed[k]
	}
	return [][]heap.Timer{l, falling, cross, mixed}
}

// everyOrder calls for each order in which timers come.
func everyOrder(l []heap.Timer, call func(l []heap.Timer)) {
	var turn func(k int)
	turn = func(k int) {
		if k == len(l) {
			call(l)
			return
		}
		for j := k; j < len(l); j++ {
			l[k], l[j] = l[j], l[k]
			turn(k + 1)
			l[k], l[j] = l[j], l[k]
		}
	}
	turn(0)
}
