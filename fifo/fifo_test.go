package fifo_test

import (
	"math"
	"slices"
	"testing"

	"catafalque/api"
	"catafalque/fifo"
)

// The document's example.
func TestExample(t *testing.T) {
	a := made(t, 3, 1)
	pushed(t, a, 0, []int{3, 1})
	if g, ok := a.Pop(0); g != 3 || !ok {
		t.Errorf("Pop(0) is %d, %t", g, ok)
	}
}

// P5.1: an arena of empty queues, for the numbers from 1 to room.
func TestNew(t *testing.T) {
	for room := 1; room <= 64; room++ {
		for _, lists := range []int{1, 2, 3, 31, 63, 64} {
			for _, c := range [][2]int{{room, lists}, {lists, room}} {
				a := made(t, c[0], c[1])
				holds(t, a, c[0], make([][]int, c[1])...)
				for list := range c[1] {
					if g, ok := a.Pop(list); g != 0 || ok {
						t.Fatalf("New(%d, %d): Pop(%d) is %d, %t", c[0], c[1], list, g, ok)
					}
				}
			}
		}
	}
}

// P5.1: rooms and lists that may not be.
func TestNewRefused(t *testing.T) {
	wrong := append([]int{0}, odd...)
	right := []int{1, 2, 63, 64}
	for _, x := range wrong {
		for _, y := range slices.Concat(wrong, right) {
			if a, e := fifo.New(x, y); a != nil || e != api.ErrArg {
				t.Errorf("New(%d, %d) is %v, %d", x, y, a, e)
			}
			if a, e := fifo.New(y, x); a != nil || e != api.ErrArg {
				t.Errorf("New(%d, %d) is %v, %d", y, x, a, e)
			}
		}
	}
}

// P5.1: who is pushed is the last one of that queue, and of none else.
func TestPush(t *testing.T) {
	a := made(t, 9, 3)
	for _, c := range []struct {
		list, g int
		rows    [][]int
	}{
		{1, 5, [][]int{nil, {5}, nil}},
		{0, 9, [][]int{{9}, {5}, nil}},
		{1, 1, [][]int{{9}, {5, 1}, nil}},
		{2, 8, [][]int{{9}, {5, 1}, {8}}},
		{1, 7, [][]int{{9}, {5, 1, 7}, {8}}},
		{0, 2, [][]int{{9, 2}, {5, 1, 7}, {8}}},
		{2, 3, [][]int{{9, 2}, {5, 1, 7}, {8, 3}}},
		{1, 6, [][]int{{9, 2}, {5, 1, 7, 6}, {8, 3}}},
		{0, 4, [][]int{{9, 2, 4}, {5, 1, 7, 6}, {8, 3}}},
	} {
		if e := a.Push(c.list, c.g); e != api.OK {
			t.Fatalf("Push(%d, %d) is %d", c.list, c.g, e)
		}
		holds(t, a, 9, c.rows...)
	}
}

// P5.1: queues that are none, numbers that are none, and who stands already;
// of the two errors ErrArg is told, and all stays as it was.
func TestPushRefused(t *testing.T) {
	rows := [][]int{{2, 4}, {5}, nil}
	a := filled(t, 6, rows...)
	none := append([]int{3, 4, 64}, odd...)
	wrong := append([]int{0, 7, 64}, odd...)
	for _, list := range none {
		for _, g := range slices.Concat(wrong, row(1, 6)) {
			if e := a.Push(list, g); e != api.ErrArg {
				t.Errorf("Push(%d, %d) is %d", list, g, e)
			}
		}
	}
	for list := range 3 {
		for _, g := range wrong {
			if e := a.Push(list, g); e != api.ErrArg {
				t.Errorf("Push(%d, %d) is %d", list, g, e)
			}
		}
		for _, g := range []int{2, 4, 5} {
			if e := a.Push(list, g); e != api.ErrThere {
				t.Errorf("Push(%d, %d) is %d", list, g, e)
			}
		}
	}
	holds(t, a, 6, rows...)
	for list := range rows {
		if l := popped(a, list); !slices.Equal(l, rows[list]) {
			t.Errorf("of the queue %d are popped %v", list, l)
		}
	}
}

// P5.2, P5.3: the first one, until there is nobody, and then nobody.
func TestPop(t *testing.T) {
	a := filled(t, 8, []int{3, 1, 8}, nil, []int{7, 2})
	for _, c := range []struct {
		list, g int
		rows    [][]int
	}{
		{0, 3, [][]int{{1, 8}, nil, {7, 2}}},
		{2, 7, [][]int{{1, 8}, nil, {2}}},
		{1, 0, [][]int{{1, 8}, nil, {2}}},
		{0, 1, [][]int{{8}, nil, {2}}},
		{2, 2, [][]int{{8}, nil, nil}},
		{2, 0, [][]int{{8}, nil, nil}},
		{0, 8, [][]int{nil, nil, nil}},
		{0, 0, [][]int{nil, nil, nil}},
	} {
		if g, ok := a.Pop(c.list); g != c.g || ok != (c.g > 0) {
			t.Fatalf("Pop(%d) is %d, %t, not %d", c.list, g, ok, c.g)
		}
		holds(t, a, 8, c.rows...)
	}
}

// P5.2: one is dropped from the begin, the middle and the end of a queue, and
// pushed again: it is the last one then, with nobody behind it.
func TestDrop(t *testing.T) {
	for n := 1; n <= 7; n++ {
		for k := range n {
			for list := range 3 {
				l := row(2, n+1)
				rows := [][]int{{9}, {11, 10}, {12}}
				rows[list] = l
				a := filled(t, 14, rows...)
				if !a.Drop(l[k]) {
					t.Fatalf("Drop(%d) of %v is false", l[k], rows)
				}
				rows[list] = slices.Delete(slices.Clone(l), k, k+1)
				holds(t, a, 14, rows...)
				if a.Drop(l[k]) {
					t.Fatalf("Drop(%d) of %v is true", l[k], rows)
				}
				for _, to := range []int{list, (list + 1) % 3} {
					pushed(t, a, to, []int{l[k], 1})
					rows[to] = append(rows[to], l[k], 1)
					holds(t, a, 14, rows...)
					a.Drop(l[k])
					a.Drop(1)
					rows[to] = rows[to][:len(rows[to])-2]
					holds(t, a, 14, rows...)
				}
			}
		}
	}
}

// P5.2: who stands nowhere, and what is no number, is not dropped.
func TestDropNobody(t *testing.T) {
	rows := [][]int{{2, 4}, {5}, nil}
	a := filled(t, 6, rows...)
	for _, g := range slices.Concat([]int{0, 1, 3, 6, 7, 64}, odd) {
		if a.Drop(g) {
			t.Errorf("Drop(%d) is true", g)
		}
	}
	holds(t, a, 6, rows...)
	b := made(t, 6, 3)
	for g := -1; g <= 7; g++ {
		if b.Drop(g) {
			t.Errorf("Drop(%d) is true, of an empty arena", g)
		}
	}
	holds(t, b, 6, nil, nil, nil)
}

// P5.2: what queues and numbers that are none tell.
func TestNone(t *testing.T) {
	rows := [][]int{{2, 4}, {5}, nil, {1}}
	a := filled(t, 5, rows...)
	for _, list := range slices.Concat([]int{4, 5, 64}, odd) {
		if g, ok := a.Pop(list); g != 0 || ok {
			t.Errorf("Pop(%d) is %d, %t", list, g, ok)
		}
		if l, n := a.All(list), a.Len(list); len(l) > 0 || n != 0 {
			t.Errorf("of the queue %d: %v, %d", list, l, n)
		}
	}
	for _, g := range slices.Concat([]int{0, 3, 6, 64}, odd) {
		if list := a.Of(g); list != -1 {
			t.Errorf("Of(%d) is %d", g, list)
		}
	}
	holds(t, a, 5, rows...)
}

// P5.2: all calls of an Arena that is nil; and of one that New did not make,
// which has neither queues nor numbers.
func TestNil(t *testing.T) {
	for name, a := range map[string]*fifo.Arena{"nil": nil, "zero": new(fifo.Arena)} {
		for _, x := range slices.Concat(row(0, 64), odd) {
			for _, y := range slices.Concat(row(0, 64), odd) {
				if e := a.Push(x, y); e != api.ErrArg {
					t.Fatalf("%s: Push(%d, %d) is %d", name, x, y, e)
				}
			}
			if g, ok := a.Pop(x); g != 0 || ok {
				t.Errorf("%s: Pop(%d) is %d, %t", name, x, g, ok)
			}
			if a.Drop(x) {
				t.Errorf("%s: Drop(%d) is true", name, x)
			}
			if l, n := a.All(x), a.Len(x); len(l) > 0 || n != 0 {
				t.Errorf("%s: of the queue %d: %v, %d", name, x, l, n)
			}
			if list := a.Of(x); list != -1 {
				t.Errorf("%s: Of(%d) is %d", name, x, list)
			}
		}
	}
}

// P5.1, P5.2: a room of one, and a queue of one, popped and dropped.
func TestOne(t *testing.T) {
	for _, lists := range []int{1, 64} {
		for list := range lists {
			a := made(t, 1, lists)
			rows := make([][]int, lists)
			for range 3 {
				pushed(t, a, list, []int{1})
				rows[list] = []int{1}
				holds(t, a, 1, rows...)
				if e := a.Push(lists-1-list, 1); e != api.ErrThere {
					t.Fatalf("Push(%d, 1) is %d", lists-1-list, e)
				}
				if g, ok := a.Pop(list); g != 1 || !ok {
					t.Fatalf("Pop(%d) is %d, %t", list, g, ok)
				}
				rows[list] = nil
				holds(t, a, 1, rows...)
				pushed(t, a, list, []int{1})
				if !a.Drop(1) || a.Drop(1) {
					t.Fatal("1 is not dropped once")
				}
				holds(t, a, 1, rows...)
			}
		}
	}
}

// P5.1, P5.3: an arena in which all stand, emptied and filled again: by pops,
// and by drops from the first one on, from the last one on, and crosswise.
func TestFullAndEmptied(t *testing.T) {
	for _, room := range []int{1, 2, 3, 5, 63, 64} {
		up, down := row(1, room), turned(row(1, room))
		cross := slices.SortedFunc(slices.Values(up), func(a, b int) int { return a*37%67 - b*37%67 })
		for _, lists := range []int{1, 64} {
			a := made(t, room, lists)
			rows := make([][]int, lists)
			for k, in := range [][]int{up, down, cross, up, cross} {
				list := k * 13 % lists
				pushed(t, a, list, in)
				rows[list] = in
				holds(t, a, room, rows...)
				if l := popped(a, list); !slices.Equal(l, in) {
					t.Fatalf("of %v are popped %v", in, l)
				}
				for _, out := range [][]int{in, turned(in), up, cross} {
					pushed(t, a, list, in)
					rows[list] = slices.Clone(in)
					for _, g := range out {
						if !a.Drop(g) {
							t.Fatalf("Drop(%d) is false", g)
						}
						at := slices.Index(rows[list], g)
						rows[list] = slices.Delete(rows[list], at, at+1)
						holds(t, a, room, rows...)
					}
				}
				rows[list] = nil
			}
		}
	}
}

// P5.1, P5.3: each of the 64 in a queue of its own, and each taken over to the
// next queue, round and round.
func TestEachItsOwn(t *testing.T) {
	a := made(t, 64, 64)
	rows := make([][]int, 64)
	for list := range 64 {
		pushed(t, a, list, []int{list + 1})
		rows[list] = []int{list + 1}
	}
	holds(t, a, 64, rows...)
	for list := range 300 {
		from, to := list%64, (list+1)%64
		g, ok := a.Pop(from)
		if want := rows[from][0]; g != want || !ok {
			t.Fatalf("Pop(%d) is %d, %t, not %d", from, g, ok, want)
		}
		pushed(t, a, to, []int{g})
		rows[from], rows[to] = rows[from][1:], append(slices.Clone(rows[to]), g)
		holds(t, a, 64, rows...)
	}
}

// turns are all calls that turn an arena of a room and of queues, with one
// queue and one number too low and too high.
func turns(room, lists int) []turn {
	var all []turn
	for list := -1; list <= lists; list++ {
		all = append(all, turn{pop, list, 0})
		for g := 0; g <= room+1; g++ {
			all = append(all, turn{push, list, g})
		}
	}
	for g := 0; g <= room+1; g++ {
		all = append(all, turn{drop, 0, g})
	}
	return all
}

// inTurns gives all rows of n of these calls.
func inTurns(all []turn, n int, give func(l []turn)) {
	l := make([]turn, n)
	var from func(k int)
	from = func(k int) {
		if k == n {
			give(l)
			return
		}
		for _, x := range all {
			l[k] = x
			from(k + 1)
		}
	}
	from(0)
}

// P5.1, P5.2, P5.3, P1: all that a few calls may make of a small arena.
func TestAnything(t *testing.T) {
	for _, c := range []struct{ room, lists, n int }{{1, 1, 4}, {1, 2, 4}, {2, 1, 4}, {2, 2, 3}, {3, 2, 3}} {
		inTurns(turns(c.room, c.lists), c.n, func(l []turn) {
			a, q := made(t, c.room, c.lists), empty(c.room, c.lists)
			for _, x := range l {
				do(t, a, q, x)
			}
			holds(t, a, c.room, q.rows...)
		})
	}
	// Without the wrong ones: longer, so that many stand, and stand again.
	for _, c := range []struct{ room, lists, n int }{{3, 1, 6}, {2, 2, 6}, {3, 2, 5}} {
		all := slices.DeleteFunc(turns(c.room, c.lists), func(x turn) bool {
			return x.list < 0 || x.list >= c.lists || x.kind != pop && (x.g < 1 || x.g > c.room)
		})
		inTurns(all, c.n, func(l []turn) {
			a, q := made(t, c.room, c.lists), empty(c.room, c.lists)
			for _, x := range l {
				do(t, a, q, x)
			}
			holds(t, a, c.room, q.rows...)
		})
	}
}

// next is a number of a row that is far from regular, and always the same.
func next(x uint32) uint32 {
	return x*1664525 + 1013904223
}

// P5.1, P5.2, P5.3: long rows of calls, with wrong ones among them.
func TestLong(t *testing.T) {
	x := uint32(5)
	under := func(n int) int {
		x = next(x)
		return int(x>>8) % n
	}
	for _, room := range []int{1, 2, 7, 40, 63, 64} {
		for _, lists := range []int{1, 2, 5, 63, 64} {
			a, q := made(t, room, lists), empty(room, lists)
			for step := range 2000 {
				kind := []int{push, push, push, pop, drop}[under(5)]
				if step/250%2 == 1 { // it is emptied again
					kind = []int{push, pop, pop, drop, drop}[under(5)]
				}
				do(t, a, q, turn{kind, under(lists+2) - 1, under(room + 2)})
				if step%20 == 0 {
					holds(t, a, room, q.rows...)
				}
			}
			holds(t, a, room, q.rows...)
		}
	}
}

// P5.3: who is pushed first is popped first, of whichever queue, and nobody
// stands in two queues.
func TestInTurn(t *testing.T) {
	for lists := 1; lists <= 64; lists++ {
		a := made(t, 64, lists)
		rows := make([][]int, lists)
		for k := range 64 {
			g, list := k*29%64+1, k*k%lists
			pushed(t, a, list, []int{g})
			rows[list] = append(rows[list], g)
			for other := range lists {
				if e := a.Push(other, g); e != api.ErrThere {
					t.Fatalf("Push(%d, %d) is %d", other, g, e)
				}
			}
		}
		holds(t, a, 64, rows...)
		var told []int
		for list := range lists {
			l := popped(a, list)
			if !slices.Equal(l, rows[list]) {
				t.Fatalf("of %v are popped %v", rows[list], l)
			}
			told = append(told, l...)
		}
		slices.Sort(told)
		if !slices.Equal(told, row(1, 64)) {
			t.Fatalf("of %d queues are popped %v", lists, told)
		}
	}
}

// P5.2, R3: what All told stays as it was when the arena is turned, and what is
// written over it, or over the room behind it, is not in the arena.
func TestToldStays(t *testing.T) {
	for n := range 13 {
		a := filled(t, 64, row(1, n), []int{50, 60, 64})
		first, second, other := a.All(0), a.All(0), a.All(1)
		for g := 1; g <= n; g += 3 {
			a.Drop(g)
		}
		a.Pop(0)
		pushed(t, a, 0, []int{40, 41})
		popped(a, 1)
		pushed(t, a, 1, []int{42, 60, 50})
		for _, l := range [][]int{first, second} {
			if !slices.Equal(l, row(1, n)) {
				t.Fatalf("%v was told, and is %v", row(1, n), l)
			}
		}
		if !slices.Equal(other, []int{50, 60, 64}) {
			t.Fatalf("50, 60, 64 was told, and is %v", other)
		}
		rows := [][]int{a.All(0), a.All(1)}
		for _, l := range [][]int{first, a.All(0), a.All(1)} {
			l = l[:cap(l)]
			for k := range l {
				l[k] = -9
			}
		}
		holds(t, a, 64, rows...)
		if !slices.Equal(second, row(1, n)) || !slices.Equal(other, []int{50, 60, 64}) {
			t.Fatalf("what is written over one list is in %v, %v", second, other)
		}
	}
}

// R4: arenas have nothing of each other, and what is asked keeps all as it is.
func TestApart(t *testing.T) {
	a, b := made(t, 64, 2), made(t, 64, 2)
	p, q := empty(64, 2), empty(64, 2)
	for k := range 64 {
		do(t, a, p, turn{push, k % 2, k + 1})
		do(t, b, q, turn{push, k / 2 % 2, 64 - k})
	}
	for k := range 64 {
		do(t, a, p, turn{drop, 0, k*5%64 + 1})
		holds(t, b, 64, q.rows...)
		do(t, b, q, turn{pop, k % 2, 0})
		holds(t, a, 64, p.rows...)
		holds(t, a, 64, p.rows...)
		if a.Drop(math.MaxInt) || a.Push(0, 65) != api.ErrArg {
			t.Fatal("there is a number above the room")
		}
	}
	holds(t, made(t, 64, 2), 64, nil, nil)
}
