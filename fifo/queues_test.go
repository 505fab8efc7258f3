package fifo_test

import (
	"math"
	"slices"
	"testing"

	"catafalque/api"
	"catafalque/fifo"
)

// odd are numbers, queues, rooms and lists that are out of every bound.
var odd = []int{math.MinInt, math.MinInt + 1, -65, -64, -2, -1, 65, 66, 128, 1 << 32, 1<<32 + 1, math.MaxInt - 1, math.MaxInt}

// row is the numbers from a to b.
func row(a, b int) []int {
	var l []int
	for g := a; g <= b; g++ {
		l = append(l, g)
	}
	return l
}

// turned is a row, from the last one on.
func turned(l []int) []int {
	l = slices.Clone(l)
	slices.Reverse(l)
	return l
}

// made is an arena that may be.
func made(t *testing.T, room, lists int) *fifo.Arena {
	t.Helper()
	a, e := fifo.New(room, lists)
	if a == nil || e != api.OK {
		t.Fatalf("New(%d, %d) is %v, %d", room, lists, a, e)
	}
	return a
}

// filled is an arena with these rows, and with as many numbers as are wanted.
func filled(t *testing.T, room int, rows ...[]int) *fifo.Arena {
	t.Helper()
	a := made(t, room, len(rows))
	for list, l := range rows {
		pushed(t, a, list, l)
	}
	return a
}

// pushed pushes numbers in turn, each of which should find a place.
func pushed(t *testing.T, a *fifo.Arena, list int, l []int) {
	t.Helper()
	for _, g := range l {
		if e := a.Push(list, g); e != api.OK {
			t.Fatalf("Push(%d, %d) is %d", list, g, e)
		}
	}
}

// popped pops until there is nobody, but no more than there are numbers.
func popped(a *fifo.Arena, list int) []int {
	var l []int
	for range api.MaxGs + 1 {
		g, ok := a.Pop(list)
		if !ok {
			break
		}
		l = append(l, g)
	}
	return l
}

// holds asks an arena for all that it tells of its queues, which should be
// these rows.
func holds(t *testing.T, a *fifo.Arena, room int, rows ...[]int) {
	t.Helper()
	of := make([]int, room+1)
	for list, l := range rows {
		if all := a.All(list); !slices.Equal(all, l) {
			t.Fatalf("All(%d) is %v, not %v", list, all, l)
		}
		if n := a.Len(list); n != len(l) {
			t.Fatalf("Len(%d) is %d, not %d", list, n, len(l))
		}
		for _, g := range l {
			of[g] = list + 1
		}
	}
	for g := 1; g <= room; g++ {
		if list := a.Of(g); list != of[g]-1 {
			t.Fatalf("Of(%d) is %d, not %d", g, list, of[g]-1)
		}
	}
	for _, list := range []int{-1, len(rows)} {
		if all, n := a.All(list), a.Len(list); len(all) > 0 || n != 0 {
			t.Fatalf("of the queue %d, which is none: %v, %d", list, all, n)
		}
	}
	for _, g := range []int{-1, 0, room + 1} {
		if list := a.Of(g); list != -1 {
			t.Fatalf("Of(%d) is %d, of the room %d", g, list, room)
		}
	}
}

// kinds of a call that turns an arena.
const (
	push = iota
	pop
	drop
)

// turn is such a call, with what it is given.
type turn struct{ kind, list, g int }

// queues are what an arena should hold: the rows themselves.
type queues struct {
	room int
	rows [][]int
}

// empty are queues in which nobody stands.
func empty(room, lists int) *queues {
	return &queues{room, make([][]int, lists)}
}

// where is in which queue one stands, and at which place.
func (q *queues) where(g int) (int, int) {
	for list, l := range q.rows {
		if k := slices.Index(l, g); k >= 0 {
			return list, k
		}
	}
	return -1, -1
}

// push is what Push tells.
func (q *queues) push(list, g int) api.Errno {
	if list < 0 || list >= len(q.rows) || g < 1 || g > q.room {
		return api.ErrArg
	}
	if at, _ := q.where(g); at >= 0 {
		return api.ErrThere
	}
	q.rows[list] = append(q.rows[list], g)
	return api.OK
}

// pop is what Pop tells.
func (q *queues) pop(list int) (int, bool) {
	if list < 0 || list >= len(q.rows) || len(q.rows[list]) == 0 {
		return 0, false
	}
	g := q.rows[list][0]
	q.rows[list] = slices.Delete(q.rows[list], 0, 1)
	return g, true
}

// drop is what Drop tells.
func (q *queues) drop(g int) bool {
	list, k := q.where(g)
	if list < 0 {
		return false
	}
	q.rows[list] = slices.Delete(q.rows[list], k, k+1)
	return true
}

// do turns an arena, and queues beside it, which should tell the same.
func do(t *testing.T, a *fifo.Arena, q *queues, x turn) {
	t.Helper()
	switch x.kind {
	case push:
		if e, want := a.Push(x.list, x.g), q.push(x.list, x.g); e != want {
			t.Fatalf("Push(%d, %d) is %d, not %d", x.list, x.g, e, want)
		}
	case pop:
		g, ok := a.Pop(x.list)
		if want, is := q.pop(x.list); g != want || ok != is {
			t.Fatalf("Pop(%d) is %d, %t, not %d, %t", x.list, g, ok, want, is)
		}
	case drop:
		if ok, is := a.Drop(x.g), q.drop(x.g); ok != is {
			t.Fatalf("Drop(%d) is %t", x.g, ok)
		}
	}
}
