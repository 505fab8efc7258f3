package arena_test

import (
	"slices"
	"testing"

	"catafalque/api"
	"catafalque/arena"
)

// told is what a Take should tell.
type told struct {
	g, gen int
	ok     bool
}

// tells takes a number, which should be as it is said here.
func tells(t *testing.T, a *arena.Arena, want told) {
	t.Helper()
	g, gen, ok := a.Take()
	if (told{g, gen, ok}) != want {
		t.Fatalf("Take() is %d, %d, %t, not %v", g, gen, ok, want)
	}
}

// frees frees a number, which should live.
func frees(t *testing.T, a *arena.Arena, l ...int) {
	t.Helper()
	for _, g := range l {
		if !a.Free(g) {
			t.Fatalf("Free(%d) is false", g)
		}
	}
}

// The document's example.
func TestExample(t *testing.T) {
	a := made(t, 2)
	tells(t, a, told{1, 1, true})
	tells(t, a, told{2, 1, true})
	frees(t, a, 1)
	tells(t, a, told{1, 2, true})
}

// P8.1: an arena of the numbers from 1 to room, none of which lives or ever did.
func TestNew(t *testing.T) {
	for room := 1; room <= 64; room++ {
		a := made(t, room)
		holds(t, a, none(room))
		for g := 1; g <= room; g++ {
			if a.Free(g) {
				t.Fatalf("Free(%d) is true, of a room of %d", g, room)
			}
		}
		holds(t, a, none(room))
	}
}

// P8.1: rooms that may not be.
func TestNewRefused(t *testing.T) {
	for _, room := range append([]int{0}, odd...) {
		if a, e := arena.New(room); a != nil || e != api.ErrArg {
			t.Errorf("New(%d) is %v, %d", room, a, e)
		}
	}
}

// P8.1: those who never lived are taken rising, until all live; then nobody is
// taken, and all stays as it is.
func TestTakeRising(t *testing.T) {
	for room := 1; room <= 64; room++ {
		a, n := made(t, room), none(room)
		for g := 1; g <= room; g++ {
			tells(t, a, told{g, 1, true})
			n.take()
			holds(t, a, n)
		}
		for range 3 {
			tells(t, a, told{})
			holds(t, a, n)
		}
		if a.Count() != room || a.Live(room+1) || a.Gen(room+1) != 0 {
			t.Fatalf("of a room of %d, %d live", room, a.Count())
		}
	}
}

// P8.1: who was freed last is taken first, ahead of who never lived.
func TestTakeFreed(t *testing.T) {
	a := made(t, 5)
	for g := 1; g <= 3; g++ {
		tells(t, a, told{g, 1, true})
	}
	frees(t, a, 2, 3, 1)
	tells(t, a, told{1, 2, true})
	tells(t, a, told{3, 2, true})
	frees(t, a, 1)
	tells(t, a, told{1, 3, true})
	tells(t, a, told{2, 2, true})
	tells(t, a, told{4, 1, true})
	frees(t, a, 2, 4)
	tells(t, a, told{4, 2, true})
	frees(t, a, 3)
	tells(t, a, told{3, 3, true})
	tells(t, a, told{2, 3, true})
	tells(t, a, told{5, 1, true})
	tells(t, a, told{})
	frees(t, a, 5)
	tells(t, a, told{5, 2, true})
	tells(t, a, told{})
	for g, gen := range []int{0, 3, 3, 3, 2, 2, 0} {
		if is := a.Gen(g); is != gen {
			t.Errorf("Gen(%d) is %d, not %d", g, is, gen)
		}
	}
}

// P8.1, P8.3: one freed and taken at once is the same, and a generation more.
func TestFreedAtOnce(t *testing.T) {
	for _, room := range []int{1, 2, 63, 64} {
		a, n := filled(t, room)
		for gen := 2; gen <= 40; gen++ {
			for g := 1; g <= room; g++ {
				frees(t, a, g)
				if a.Live(g) || a.Gen(g) != gen-1 || a.Count() != room-1 {
					t.Fatalf("%d was freed, and lives: %t, %d, with %d", g, a.Live(g), a.Gen(g), a.Count())
				}
				tells(t, a, told{g, gen, true})
				n.free(g)
				n.take()
			}
			tells(t, a, told{})
			holds(t, a, n)
		}
	}
}

// P8.1: all taken, all freed again in this turn or in another one, and taken
// again: the other way round.
func TestAllFreed(t *testing.T) {
	for room := 1; room <= 64; room++ {
		a, n := filled(t, room)
		for gen, l := range orders(room) {
			for _, g := range l {
				freed(t, a, n, g)
				holds(t, a, n)
			}
			if a.Count() != 0 {
				t.Fatalf("all are freed, and %d live", a.Count())
			}
			for k := range room {
				tells(t, a, told{l[room-1-k], gen + 2, true})
				n.take()
				holds(t, a, n)
			}
			tells(t, a, told{})
		}
	}
}

// P8.1: some are taken, and all of them freed, ahead of those who never lived.
func TestSomeFreed(t *testing.T) {
	for _, room := range []int{2, 3, 7, 63, 64} {
		for some := 1; some < room; some++ {
			for _, l := range orders(some) {
				a, n := made(t, room), none(room)
				for range some {
					took(t, a, n)
				}
				for _, g := range l {
					freed(t, a, n, g)
				}
				holds(t, a, n)
				for k := range some {
					tells(t, a, told{l[some-1-k], 2, true})
					n.take()
				}
				for g := some + 1; g <= room; g++ {
					tells(t, a, told{g, 1, true})
					n.take()
				}
				tells(t, a, told{})
				holds(t, a, n)
			}
		}
	}
}

// P8.1: who doesn't live isn't freed: one that never lived, one that is freed
// twice, and what is no number; and it is not taken for it.
func TestFreeRefused(t *testing.T) {
	a, n := made(t, 6), none(6)
	for range 4 {
		took(t, a, n)
	}
	freed(t, a, n, 3)
	freed(t, a, n, 1)
	for range 2 {
		for _, g := range append([]int{0, 1, 3, 5, 6, 7, 64}, odd...) {
			if a.Free(g) {
				t.Errorf("Free(%d) is true", g)
			}
		}
		holds(t, a, n)
	}
	for _, want := range []told{{1, 2, true}, {3, 2, true}, {5, 1, true}, {6, 1, true}, {}} {
		tells(t, a, want)
	}
}

// P8.2: numbers that are none don't live, and have the generation 0, whether
// all live, or some, or nobody.
func TestNoNumber(t *testing.T) {
	for _, room := range []int{1, 2, 5, 63, 64} {
		a, n := made(t, room), none(room)
		for range room + 1 {
			for _, g := range append([]int{0, room + 1, 2*room + 64}, odd...) {
				if a.Live(g) || a.Gen(g) != 0 || a.Free(g) {
					t.Fatalf("of a room of %d, %d: %t, %d", room, g, a.Live(g), a.Gen(g))
				}
			}
			holds(t, a, n)
			took(t, a, n)
		}
	}
}

// P8.2: one that is free keeps its generation, and a number that never lived
// has none, though others do.
func TestGen(t *testing.T) {
	a := made(t, 64)
	for turn := 1; turn <= 300; turn++ {
		tells(t, a, told{1, turn, true})
		if a.Gen(1) != turn || a.Gen(2) != 0 {
			t.Fatalf("Gen(1) is %d at the turn %d, and Gen(2) %d", a.Gen(1), turn, a.Gen(2))
		}
		frees(t, a, 1)
		if a.Gen(1) != turn || a.Gen(2) != 0 {
			t.Fatalf("Gen(1) is %d behind the turn %d, and Gen(2) %d", a.Gen(1), turn, a.Gen(2))
		}
	}
}

// P8.2: all calls of an Arena that is nil; and of one that New did not make,
// which has no numbers.
func TestNil(t *testing.T) {
	for name, a := range map[string]*arena.Arena{"nil": nil, "zero": new(arena.Arena)} {
		for range 2 {
			if g, gen, ok := a.Take(); g != 0 || gen != 0 || ok {
				t.Errorf("%s: Take() is %d, %d, %t", name, g, gen, ok)
			}
			for _, g := range append([]int{0, 1, 2, 63, 64}, odd...) {
				if a.Free(g) || a.Live(g) || a.Gen(g) != 0 {
					t.Errorf("%s: %d lives: %t, %d", name, g, a.Live(g), a.Gen(g))
				}
			}
			if c := a.Count(); c != 0 {
				t.Errorf("%s: Count() is %d", name, c)
			}
		}
	}
}

// inTurns gives all rows of n calls: 0 takes, another number is freed.
func inTurns(least, most, n int, give func(l []int)) {
	l := make([]int, n)
	var from func(k int)
	from = func(k int) {
		if k == n {
			give(l)
			return
		}
		for x := least; x <= most; x++ {
			l[k] = x
			from(k + 1)
		}
	}
	from(0)
}

// done does such a row.
func done(t *testing.T, a *arena.Arena, n *numbers, l []int) {
	t.Helper()
	for _, x := range l {
		if x == 0 {
			took(t, a, n)
		} else {
			freed(t, a, n, x)
		}
	}
}

// P8.1, P8.2, P8.3, P1: all that a few calls may make of a small arena, wrong
// ones among them.
func TestAnything(t *testing.T) {
	for _, c := range []struct{ room, n int }{{1, 6}, {2, 6}, {3, 6}, {4, 5}} {
		inTurns(-1, c.room+1, c.n, func(l []int) {
			a, n := made(t, c.room), none(c.room)
			done(t, a, n, l)
			holds(t, a, n)
		})
	}
	for _, c := range []struct{ room, n int }{{1, 9}, {2, 9}, {3, 8}, {4, 7}} {
		inTurns(0, c.room, c.n, func(l []int) {
			a, n := made(t, c.room), none(c.room)
			done(t, a, n, l)
			holds(t, a, n)
		})
	}
}

// next is a number of a row that is far from regular, and always the same.
func next(x uint32) uint32 {
	return x*1664525 + 1013904223
}

// P8.1, P8.2, P8.3: long rows of calls, in which the arena is filled and
// emptied, with wrong ones among them.
func TestLong(t *testing.T) {
	x := uint32(8)
	under := func(n int) int {
		x = next(x)
		return int(x>>8) % n
	}
	for room := 1; room <= 64; room++ {
		a, n := made(t, room), none(room)
		for step := range 2000 {
			takes := 3
			if step/300%2 == 1 {
				takes = 1
			}
			if under(4) < takes {
				took(t, a, n)
			} else {
				freed(t, a, n, under(room+2))
			}
			if step%10 == 0 {
				holds(t, a, n)
			}
		}
		holds(t, a, n)
	}
}

// P8.3: no number is told again while it lives, and each time with the next
// generation.
func TestOnce(t *testing.T) {
	x := uint32(83)
	for _, room := range []int{1, 2, 9, 64} {
		a := made(t, room)
		var live []int
		gens := make([]int, room+1)
		for range 5000 {
			x = next(x)
			g, gen, ok := a.Take()
			if ok != (len(live) < room) {
				t.Fatalf("Take() is %t, with %v", ok, live)
			}
			if ok {
				if g < 1 || g > room || slices.Contains(live, g) || gen != gens[g]+1 {
					t.Fatalf("Take() is %d, %d, with %v", g, gen, live)
				}
				live, gens[g] = append(live, g), gen
			}
			for range x >> 8 % 3 {
				if len(live) == 0 {
					break
				}
				x = next(x)
				at := int(x>>8) % len(live)
				frees(t, a, live[at])
				live = slices.Delete(live, at, at+1)
			}
			if a.Count() != len(live) {
				t.Fatalf("Count() is %d, with %v", a.Count(), live)
			}
		}
	}
}

// P8.2: what is asked, and what is refused, keeps all as it is.
func TestAskedStays(t *testing.T) {
	a, n := made(t, 9), none(9)
	done(t, a, n, []int{0, 0, 0, 0, 2, 4, 0})
	for range 3 {
		holds(t, a, n)
	}
	a.Free(4)
	n.free(4)
	a.Free(4)
	holds(t, a, n)
	for range 9 {
		took(t, a, n)
		holds(t, a, n)
	}
}

// R4: arenas have nothing of each other, whatever is done with one of them.
func TestApart(t *testing.T) {
	for _, rooms := range [][2]int{{1, 1}, {1, 64}, {3, 5}, {64, 64}} {
		a, b := made(t, rooms[0]), made(t, rooms[1])
		p, q := none(rooms[0]), none(rooms[1])
		x := uint32(4)
		for range 600 {
			x = next(x)
			if x>>8%3 > 0 {
				took(t, a, p)
			} else {
				freed(t, a, p, int(x>>10)%rooms[0]+1)
			}
			holds(t, b, q)
			x = next(x)
			if x>>8%3 > 0 {
				took(t, b, q)
			} else {
				freed(t, b, q, int(x>>10)%rooms[1]+1)
			}
			holds(t, a, p)
		}
		c := made(t, rooms[0])
		holds(t, c, none(rooms[0]))
		tells(t, c, told{1, 1, true})
		holds(t, a, p)
		holds(t, b, q)
	}
}
