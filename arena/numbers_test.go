package arena_test

import (
	"math"
	"testing"

	"catafalque/api"
	"catafalque/arena"
)

// odd are rooms and numbers that are out of every bound.
var odd = []int{math.MinInt, math.MinInt + 1, -1 << 32, -256, -65, -64, -2, -1, 65, 66, 128, 256, 257, 1 << 32, 1<<32 + 1, math.MaxInt - 1, math.MaxInt}

// made is an arena that may be.
func made(t *testing.T, room int) *arena.Arena {
	t.Helper()
	a, e := arena.New(room)
	if a == nil || e != api.OK {
		t.Fatalf("New(%d) is %v, %d", room, a, e)
	}
	return a
}

// numbers are what an arena should hold: of each number, from 1 on, whether it
// lives, its generation, and at which turn it was freed last (0: it never was).
type numbers struct {
	turn int
	of   []number
}

// number is one of them.
type number struct {
	lives      bool
	gen, freed int
}

// none are numbers none of which lives.
func none(room int) *numbers {
	return &numbers{of: make([]number, room)}
}

// next is who should live next: of those who don't live, the one that was freed
// last, and the least of those who never lived, if there is no such one.
func (n *numbers) next() int {
	next := 0
	for g := len(n.of); g >= 1; g-- {
		x := n.of[g-1]
		if !x.lives && (next == 0 || x.freed >= n.of[next-1].freed) {
			next = g
		}
	}
	return next
}

// take is what Take tells.
func (n *numbers) take() (int, int, bool) {
	g := n.next()
	if g == 0 {
		return 0, 0, false
	}
	n.turn++
	n.of[g-1].lives = true
	n.of[g-1].gen++
	return g, n.of[g-1].gen, true
}

// free is what Free tells.
func (n *numbers) free(g int) bool {
	if !n.live(g) {
		return false
	}
	n.turn++
	n.of[g-1].lives = false
	n.of[g-1].freed = n.turn
	return true
}

// live is what Live tells.
func (n *numbers) live(g int) bool {
	return 1 <= g && g <= len(n.of) && n.of[g-1].lives
}

// gen is what Gen tells.
func (n *numbers) gen(g int) int {
	if g < 1 || g > len(n.of) {
		return 0
	}
	return n.of[g-1].gen
}

// count is what Count tells.
func (n *numbers) count() int {
	sum := 0
	for _, x := range n.of {
		if x.lives {
			sum++
		}
	}
	return sum
}

// holds asks an arena for all that it tells, which should be of these numbers;
// and of some that it hasn't.
func holds(t *testing.T, a *arena.Arena, n *numbers) {
	t.Helper()
	if c := a.Count(); c != n.count() {
		t.Fatalf("Count() is %d, not %d", c, n.count())
	}
	for g := -2; g <= len(n.of)+2; g++ {
		if ok := a.Live(g); ok != n.live(g) {
			t.Fatalf("Live(%d) is %t", g, ok)
		}
		if gen := a.Gen(g); gen != n.gen(g) {
			t.Fatalf("Gen(%d) is %d, not %d", g, gen, n.gen(g))
		}
	}
}

// took takes a number of an arena, and of numbers beside it, which should tell
// the same.
func took(t *testing.T, a *arena.Arena, n *numbers) {
	t.Helper()
	g, gen, ok := a.Take()
	if is, of, may := n.take(); g != is || gen != of || ok != may {
		t.Fatalf("Take() is %d, %d, %t, not %d, %d, %t", g, gen, ok, is, of, may)
	}
}

// freed frees a number of an arena, and of numbers beside it, which should tell
// the same.
func freed(t *testing.T, a *arena.Arena, n *numbers, g int) {
	t.Helper()
	if ok, is := a.Free(g), n.free(g); ok != is {
		t.Fatalf("Free(%d) is %t", g, ok)
	}
}

// filled is an arena all of whose numbers live, and the numbers beside it.
func filled(t *testing.T, room int) (*arena.Arena, *numbers) {
	t.Helper()
	a, n := made(t, room), none(room)
	for range room {
		took(t, a, n)
	}
	return a, n
}

// orders are some in which all numbers of a room come: rising, falling, and
// crosswise.
func orders(room int) [][]int {
	rising, falling, cross := make([]int, room), make([]int, room), make([]int, room)
	for k := range room {
		rising[k], falling[k] = k+1, room-k
		cross[k] = k/2 + 1
		if k%2 == 1 {
			cross[k] = room - k/2
		}
	}
	return [][]int{rising, falling, cross}
}
