package ring_test

import (
	"math"
	"slices"
	"testing"

	"catafalque/ring"
)

// P4.1: one behind the others, where there is room, and where there isn't.
func TestAdd(t *testing.T) {
	for _, c := range []struct {
		next    int
		l       []int
		g, size int
		left    []int
		told    []int
	}{
		{0, nil, 7, 4, []int{7}, nil},
		{1, nil, 7, 4, []int{7}, nil},
		{1, []int{2}, 7, 4, []int{2, 7}, nil},
		{0, []int{2, 3, 4}, 7, 4, []int{2, 3, 4, 7}, nil},
		{1, []int{2, 3, 4, 5}, 7, 4, []int{4, 5}, []int{2, 3, 7}},
		{0, []int{2, 3, 4, 5}, 7, 4, []int{4, 5}, []int{2, 3, 7}},
		{1, []int{2, 3, 4, 5, 6}, 7, 4, []int{4, 5, 6}, []int{2, 3, 7}},
		{1, row(2, 20), 30, 4, row(4, 20), []int{2, 3, 30}},
		{1, row(1, 15), 16, 16, row(1, 16), nil},
		{1, row(1, 16), 17, 16, row(9, 16), []int{1, 2, 3, 4, 5, 6, 7, 8, 17}},
		// Odd sizes are halved downwards.
		{1, []int{2, 3}, 7, 3, []int{2, 3, 7}, nil},
		{1, []int{2, 3, 4}, 7, 3, []int{3, 4}, []int{2, 7}},
		{1, []int{2, 3, 4, 5}, 7, 3, []int{3, 4, 5}, []int{2, 7}},
		{1, []int{2, 3, 4, 5, 6}, 7, 5, []int{4, 5, 6}, []int{2, 3, 7}},
		// Sizes below 2 are 2.
		{1, []int{2}, 7, 2, []int{2, 7}, nil},
		{1, []int{2, 3}, 7, 2, []int{3}, []int{2, 7}},
		{1, []int{2}, 7, 1, []int{2, 7}, nil},
		{1, []int{2, 3}, 7, 1, []int{3}, []int{2, 7}},
		{1, nil, 7, 0, []int{7}, nil},
		{1, []int{2}, 7, 0, []int{2, 7}, nil},
		{1, []int{2, 3, 4}, 7, 0, []int{3, 4}, []int{2, 7}},
		{1, []int{2}, 7, -9, []int{2, 7}, nil},
		{1, []int{2, 3}, 7, -9, []int{3}, []int{2, 7}},
		{1, []int{2, 3}, 7, math.MinInt, []int{3}, []int{2, 7}},
		{1, []int{2, 3}, 7, math.MaxInt, []int{2, 3, 7}, nil},
		// Whatever numbers: places count.
		{1, []int{2}, 0, 4, []int{2, 0}, nil},
		{0, []int{0, -3}, -4, 2, []int{-3}, []int{0, -4}},
		{7, []int{7, 7}, 7, 3, []int{7, 7, 7}, nil},
		{7, []int{7, 8}, 7, 2, []int{8}, []int{7, 7}},
		{-1, []int{math.MinInt}, math.MaxInt, 2, []int{math.MinInt, math.MaxInt}, nil},
	} {
		r := ring.Ring{Next: c.next, L: c.l}
		s, told := ring.Add(r, c.g, c.size)
		if !alike(s, ring.Ring{Next: c.next, L: c.left}) || !slices.Equal(told, c.told) {
			t.Errorf("Add(%v, %d, %d) is %v, %v", r, c.g, c.size, s, told)
		}
	}
}

// P4.1: one is next, and who was next stands behind the others.
func TestPut(t *testing.T) {
	for _, c := range []struct {
		next    int
		l       []int
		g, size int
		left    []int
		told    []int
	}{
		{1, []int{2, 3}, 4, 2, []int{3}, []int{2, 1}}, // the document's example
		{0, nil, 4, 2, nil, nil},
		{0, []int{2, 3}, 4, 2, []int{2, 3}, nil},
		{0, []int{2, 3, 5, 6}, 4, 2, []int{2, 3, 5, 6}, nil},
		{0, []int{2, 3, 5, 6}, 4, -2, []int{2, 3, 5, 6}, nil},
		{1, nil, 4, 2, []int{1}, nil},
		{1, []int{2}, 4, 2, []int{2, 1}, nil},
		{1, []int{2, 3, 5}, 4, 2, []int{3, 5}, []int{2, 1}},
		{1, []int{2, 3}, 4, 3, []int{2, 3, 1}, nil},
		{1, []int{2, 3, 5}, 4, 3, []int{3, 5}, []int{2, 1}},
		{1, []int{2, 3, 5, 6}, 4, 4, []int{5, 6}, []int{2, 3, 1}},
		{20, row(1, 16), 30, 16, row(9, 16), append(row(1, 8), 20)},
		{20, row(1, 15), 30, 16, append(row(1, 15), 20), nil},
		{1, []int{2}, 4, 0, []int{2, 1}, nil},
		{1, []int{2, 3}, 4, 1, []int{3}, []int{2, 1}},
		{1, []int{2, 3}, 4, 0, []int{3}, []int{2, 1}},
		{1, []int{2, 3}, 4, math.MinInt, []int{3}, []int{2, 1}},
		{1, []int{2, 3}, 4, math.MaxInt, []int{2, 3, 1}, nil},
		{-1, []int{2, 3}, 4, 2, []int{3}, []int{2, -1}},
		{-1, nil, -4, 2, []int{-1}, nil},
		{1, []int{2}, 0, 2, []int{2, 1}, nil},
		{0, []int{2}, 0, 2, []int{2}, nil},
		{4, []int{4}, 4, 2, []int{4, 4}, nil},
		{4, []int{4, 4}, 4, 2, []int{4}, []int{4, 4}},
	} {
		r := ring.Ring{Next: c.next, L: c.l}
		s, told := ring.Put(r, c.g, c.size)
		if !alike(s, ring.Ring{Next: c.g, L: c.left}) || !slices.Equal(told, c.told) {
			t.Errorf("Put(%v, %d, %d) is %v, %v", r, c.g, c.size, s, told)
		}
	}
}

// P4.2: the next one, or the first one of the others.
func TestTake(t *testing.T) {
	for _, c := range []struct {
		next int
		l    []int
		left []int
		g    int
	}{
		{1, []int{2, 3}, []int{2, 3}, 1},
		{0, []int{2, 3}, []int{3}, 2},
		{1, nil, nil, 1},
		{1, []int{2}, []int{2}, 1},
		{0, []int{2}, nil, 2},
		{0, nil, nil, 0},
		{0, []int{}, nil, 0},
		{0, row(5, 40), row(6, 40), 5},
		{-1, []int{2}, []int{2}, -1},
		{math.MinInt, []int{2}, []int{2}, math.MinInt},
		{0, []int{-2, 3}, []int{3}, -2},
		{0, []int{0, 3}, []int{3}, 0},
		{2, []int{2, 2}, []int{2, 2}, 2},
		{0, []int{2, 2}, []int{2}, 2},
	} {
		r := ring.Ring{Next: c.next, L: c.l}
		if s, g := ring.Take(r); !alike(s, ring.Ring{L: c.left}) || g != c.g {
			t.Errorf("Take(%v) is %v, %d", r, s, g)
		}
	}
}

// P4.2: the first half of the others, or, without any, the next one.
func TestHalf(t *testing.T) {
	for _, c := range []struct {
		next int
		l    []int
		stay int
		left []int
		told []int
	}{
		{1, []int{2, 3}, 1, []int{3}, []int{2}},
		{0, []int{2, 3}, 0, []int{3}, []int{2}},
		{1, []int{2, 3, 4}, 1, []int{4}, []int{2, 3}},
		{0, []int{2, 3, 4, 5, 6}, 0, []int{5, 6}, []int{2, 3, 4}},
		{1, []int{2}, 1, nil, []int{2}},
		{0, []int{2}, 0, nil, []int{2}},
		{1, nil, 0, nil, []int{1}},
		{1, []int{}, 0, nil, []int{1}},
		{0, nil, 0, nil, nil},
		{0, []int{}, 0, nil, nil},
		{1, row(2, 17), 1, row(10, 17), row(2, 9)},
		{1, row(2, 18), 1, row(11, 18), row(2, 10)},
		{-1, nil, 0, nil, []int{-1}},
		{-1, []int{0, -2, 0}, -1, []int{0}, []int{0, -2}},
		{2, []int{2, 2, 2}, 2, []int{2}, []int{2, 2}},
	} {
		r := ring.Ring{Next: c.next, L: c.l}
		if s, told := ring.Half(r); !alike(s, ring.Ring{Next: c.stay, L: c.left}) || !slices.Equal(told, c.told) {
			t.Errorf("Half(%v) is %v, %v", r, s, told)
		}
	}
}

// P4.2: the next one, if there is one, and the others.
func TestAll(t *testing.T) {
	for _, c := range []struct {
		next int
		l    []int
		want []int
	}{
		{1, []int{2, 3}, []int{1, 2, 3}},
		{0, []int{3, 2}, []int{3, 2}},
		{9, []int{3, 2}, []int{9, 3, 2}},
		{1, nil, []int{1}},
		{0, nil, nil},
		{0, []int{}, nil},
		{5, row(6, 40), row(5, 40)},
		{-1, []int{0}, []int{-1, 0}},
		{0, []int{0, 0}, []int{0, 0}},
		{2, []int{2, 2}, []int{2, 2, 2}},
	} {
		r := ring.Ring{Next: c.next, L: c.l}
		if l := ring.All(r); !slices.Equal(l, c.want) {
			t.Errorf("All(%v) is %v, not %v", r, l, c.want)
		}
	}
}

// P4.2: no longer than the size, all above 0, and each once.
func TestMay(t *testing.T) {
	for _, c := range []struct {
		next int
		l    []int
		size int
		want bool
	}{
		{0, nil, 2, true},
		{0, []int{}, 2, true},
		{1, nil, 2, true},
		{1, []int{2, 3}, 2, true},
		{0, []int{2, 3}, 2, true},
		{9, []int{3, 5, 2}, 3, true},
		{1, []int{2, 3, 4}, 2, false},
		{0, []int{2, 3, 4}, 2, false},
		{1, row(2, 17), 16, true},
		{1, row(2, 18), 16, false},
		{1, row(2, 16), 16, true},
		{math.MaxInt, row(1, 5000), 5000, true},
		{math.MaxInt, row(1, 5001), 5000, false},
		{math.MaxInt, row(1, 5001), math.MaxInt, true},
		// Sizes below 2 are 2.
		{1, []int{2, 3}, 1, true},
		{1, []int{2, 3, 4}, 1, false},
		{1, []int{2, 3}, 0, true},
		{1, []int{2, 3, 4}, 0, false},
		{1, []int{2, 3}, math.MinInt, true},
		{1, []int{2, 3, 4}, math.MinInt, false},
		{0, nil, math.MinInt, true},
		// All above 0.
		{-1, nil, 4, false},
		{math.MinInt, []int{2}, 4, false},
		{0, []int{0}, 4, false},
		{1, []int{0}, 4, false},
		{1, []int{2, 0}, 4, false},
		{1, []int{2, -3, 4}, 4, false},
		{0, []int{math.MinInt}, 4, false},
		{1, []int{2, math.MaxInt}, 4, true},
		// Each once.
		{1, []int{1}, 4, false},
		{1, []int{2, 3, 1}, 4, false},
		{0, []int{2, 2}, 4, false},
		{0, []int{2, 3, 2}, 4, false},
		{4, []int{2, 3, 1}, 4, true},
	} {
		r := ring.Ring{Next: c.next, L: c.l}
		if ok := ring.May(r, c.size); ok != c.want {
			t.Errorf("May(%v, %d) is %t", r, c.size, ok)
		}
	}
}

// asCounted holds all calls against the document's words.
func asCounted(t *testing.T, r ring.Ring, g, size int) {
	t.Helper()
	keep := ring.Ring{Next: r.Next, L: slices.Clone(r.L)}
	s, l := ring.Add(r, g, size)
	if u, m := added(r, g, size); !alike(s, u) || !slices.Equal(l, m) {
		t.Fatalf("Add(%v, %d, %d) is %v, %v, not %v, %v", r, g, size, s, l, u, m)
	}
	s, l = ring.Put(r, g, size)
	if u, m := put(r, g, size); !alike(s, u) || !slices.Equal(l, m) {
		t.Fatalf("Put(%v, %d, %d) is %v, %v, not %v, %v", r, g, size, s, l, u, m)
	}
	s, k := ring.Take(r)
	if u, n := taken(r); !alike(s, u) || k != n {
		t.Fatalf("Take(%v) is %v, %d, not %v, %d", r, s, k, u, n)
	}
	s, l = ring.Half(r)
	if u, m := halved(r); !alike(s, u) || !slices.Equal(l, m) {
		t.Fatalf("Half(%v) is %v, %v, not %v, %v", r, s, l, u, m)
	}
	if l := ring.All(r); !slices.Equal(l, all(r)) {
		t.Fatalf("All(%v) is %v, not %v", r, l, all(r))
	}
	if ok := ring.May(r, size); ok != may(r, size) {
		t.Fatalf("May(%v, %d) is %t", r, size, ok)
	}
	if !alike(r, keep) {
		t.Fatalf("%v is %v now", keep, r)
	}
}

// P4.1, P4.2, P1: whatever stands in a ring, and whatever comes to it.
func TestAnything(t *testing.T) {
	rings(4, []int{-1, 0, 1, 2, 3}, func(r ring.Ring) {
		for size := -1; size <= 6; size++ {
			for g := -1; g <= 4; g++ {
				asCounted(t, r, g, size)
			}
		}
	})
	for n := range 40 {
		for size := -1; size <= 42; size++ {
			asCounted(t, ring.Ring{L: row(1, n)}, 50, size)
			asCounted(t, ring.Ring{Next: 51, L: row(1, n)}, 50, size)
		}
	}
	for _, x := range odd {
		for _, y := range odd {
			for _, g := range odd {
				asCounted(t, ring.Ring{Next: x, L: []int{y, x, 4}}, g, y)
				asCounted(t, ring.Ring{Next: x, L: []int{4, y}}, y, g)
				asCounted(t, ring.Ring{Next: x}, y, g)
			}
		}
	}
}

// P4.1: what may be still may be, with one who isn't there.
func TestMayStays(t *testing.T) {
	rings(5, row(0, 6), func(r ring.Ring) {
		for size := 0; size <= 6; size++ {
			if !ring.May(r, size) {
				continue
			}
			s, _ := ring.Add(r, 7, size)
			u, _ := ring.Put(r, 7, size)
			v, _ := ring.Take(r)
			w, _ := ring.Half(r)
			for name, x := range map[string]ring.Ring{"Add": s, "Put": u, "Take": v, "Half": w} {
				if !ring.May(x, size) {
					t.Fatalf("%s of %v, of the size %d: %v", name, r, size, x)
				}
			}
		}
	})
}

// P4.3: what was there, with what was put, is what is there, with what is told.
func TestNothingLost(t *testing.T) {
	rings(4, []int{-1, 0, 1, 2, 3}, func(r ring.Ring) {
		was := ring.All(r)
		for size := -1; size <= 6; size++ {
			for g := -1; g <= 4; g++ {
				s, told := ring.Add(r, g, size)
				u, out := ring.Put(r, g, size)
				if !slices.Equal(sorted(was, []int{g}), sorted(ring.All(s), told)) {
					t.Fatalf("Add(%v, %d, %d): %v, %v", r, g, size, s, told)
				}
				if !slices.Equal(sorted(was, []int{g}), sorted(ring.All(u), out)) {
					t.Fatalf("Put(%v, %d, %d): %v, %v", r, g, size, u, out)
				}
			}
		}
		s, g := ring.Take(r)
		u, told := ring.Half(r)
		if !slices.Equal(sorted(was), sorted(ring.All(s), []int{g})) {
			t.Fatalf("Take(%v): %v, %d", r, s, g)
		}
		if !slices.Equal(sorted(was), sorted(ring.All(u), told)) {
			t.Fatalf("Half(%v): %v, %v", r, u, told)
		}
	})
}

// emptied is who is told, taken one by one, or halved again and again, as often
// as there are some at the start, and who is left then.
func emptied(r ring.Ring, halves bool) (told, left []int) {
	for range ring.All(r) {
		var out []int
		if halves {
			r, out = ring.Half(r)
		} else {
			out = []int{0}
			r, out[0] = ring.Take(r)
		}
		told = append(told, out...)
	}
	return told, ring.All(r)
}

// P4.3: a hundred are put or added, and taken and halved away again, between
// and at the end: each is told once.
func TestFilledAndEmptied(t *testing.T) {
	for size := -1; size <= 17; size++ {
		for way := range 16 {
			var r ring.Ring
			var told, out []int
			for g := 1; g <= 100; g++ {
				if (way+g)%3 == 0 {
					r, out = ring.Add(r, g, size)
				} else {
					r, out = ring.Put(r, g, size)
				}
				told = append(told, out...)
				if !ring.May(r, size) {
					t.Fatalf("the size %d, the way %d: %v may not be", size, way, r)
				}
				if way > 0 && g%way == 0 {
					var one int
					r, one = ring.Take(r)
					r, out = ring.Half(r)
					told = append(append(told, one), out...)
				}
			}
			out, left := emptied(r, way%2 == 0)
			if told = append(told, out...); !slices.Equal(sorted(told), row(1, 100)) || len(left) > 0 {
				t.Fatalf("the size %d, the way %d: %v, and %v is left", size, way, sorted(told), left)
			}
		}
	}
}

// P4.2: taken one by one all come as they stand; halved again and again, too,
// but the next one, who is not of the others, behind them.
func TestInTurn(t *testing.T) {
	for n := range 40 {
		r := ring.Ring{L: row(1, n)}
		asEmptied(t, r, false, row(1, n))
		asEmptied(t, r, true, row(1, n))
		r.Next = 50
		asEmptied(t, r, false, append([]int{50}, row(1, n)...))
		asEmptied(t, r, true, append(row(1, n), 50))
	}
}

// asEmptied holds who is told of a ring against who should be.
func asEmptied(t *testing.T, r ring.Ring, halves bool, want []int) {
	t.Helper()
	if told, left := emptied(r, halves); !slices.Equal(told, want) || len(left) > 0 {
		t.Errorf("%v, halved: %t: %v, and %v is left", r, halves, told, left)
	}
}

// rowsOf are the lists of what each call tells of a ring.
func rowsOf(r ring.Ring, size int) map[string][][]int {
	a, b := ring.Add(r, 90, size)
	c, d := ring.Put(r, 91, size)
	e, _ := ring.Take(r)
	f, g := ring.Half(r)
	return map[string][][]int{"Add": {a.L, b}, "Put": {c.L, d}, "Take": {e.L}, "Half": {f.L, g}, "All": {ring.All(r)}}
}

// marked tells whether a row has the number that is written over others, also
// in the room behind it.
func marked(l []int) bool {
	return slices.Contains(l[:cap(l)], -9)
}

// R3: what is handed in stays, also the room behind its row; what is told is
// shared with nothing, neither with that nor with what else is told.
func TestNothingShared(t *testing.T) {
	for n := range 12 {
		for _, next := range []int{0, 80} {
			for size := -1; size <= 12; size++ {
				for room := range 4 {
					whole := row(1, n+room+2)
					keep := slices.Clone(whole)
					r := ring.Ring{Next: next, L: whole[1 : n+1 : n+1+room]}
					ring.May(r, size)
					told := rowsOf(r, size)
					if !slices.Equal(whole, keep) {
						t.Fatalf("%v of %v: %v", r, keep, whole)
					}
					for name, lists := range told {
						for k, l := range lists {
							apart(t, name, l, append(slices.Delete(slices.Clone(lists), k, k+1), whole))
						}
					}
				}
			}
		}
	}
}

// apart writes over a row, and over the room behind it, and looks for that in
// others; then it puts all back.
func apart(t *testing.T, name string, l []int, others [][]int) {
	t.Helper()
	l = l[:cap(l)]
	keep := slices.Clone(l)
	for k := range l {
		l[k] = -9
	}
	for _, other := range others {
		if marked(other) {
			t.Errorf("%s: what is written over %v is in %v", name, keep, other)
		}
	}
	copy(l, keep)
}

// R4: nothing is kept: asked again, each call tells the same.
func TestNothingKept(t *testing.T) {
	r := ring.Ring{Next: 80, L: row(1, 6)}
	first := rowsOf(r, 4)
	for _, lists := range rowsOf(r, 4) {
		for _, l := range lists {
			clear(l)
		}
	}
	ring.Put(ring.Ring{Next: 1, L: row(2, 9)}, 10, 2)
	for name, lists := range rowsOf(r, 4) {
		if !slices.EqualFunc(lists, first[name], slices.Equal) {
			t.Errorf("%s: %v, and again %v", name, first[name], lists)
		}
	}
}
