package status_test

import (
	"slices"
	"testing"

	"catafalque/api"
	"catafalque/status"
)

// The document's example.
func TestExample(t *testing.T) {
	if n, ok := status.Walk([]int{api.Idle, api.Runnable, api.Dead}); n != 1 || ok {
		t.Errorf("Walk is %d, %t", n, ok)
	}
}

// P9.1: each status' name.
func TestName(t *testing.T) {
	for _, c := range []struct {
		s    int
		name string
	}{
		{api.Idle, "idle"},
		{api.Runnable, "runnable"},
		{api.Running, "running"},
		{api.Waiting, "waiting"},
		{api.Dead, "dead"},
	} {
		if name := status.Name(c.s); name != c.name {
			t.Errorf("Name(%d) is %q, not %q", c.s, name, c.name)
		}
	}
}

// P9.1: who is able.
func TestAble(t *testing.T) {
	for _, s := range all {
		able := s == api.Runnable || s == api.Running
		if status.Able(s) != able {
			t.Errorf("Able(%s) is %t", status.Name(s), !able)
		}
	}
}

// P9.1: each pair of statuses, a row for those that each one is from.
func TestMay(t *testing.T) {
	may := [5][5]bool{
		api.Idle:     {api.Runnable: true},
		api.Runnable: {api.Running: true},
		api.Running:  {api.Runnable: true, api.Waiting: true, api.Dead: true},
		api.Waiting:  {api.Runnable: true},
		api.Dead:     {api.Idle: true},
	}
	for _, from := range all {
		for _, to := range all {
			if ok := status.May(from, to); ok != may[from][to] {
				t.Errorf("May(%s, %s) is %t", status.Name(from), status.Name(to), ok)
			}
		}
	}
}

// P9.1, P1: numbers that are no statuses have no name, aren't able, and no step
// leads from them, to them, or from one to another or to itself.
func TestNoStatus(t *testing.T) {
	for _, n := range odd {
		if name := status.Name(n); name != "" {
			t.Errorf("Name(%d) is %q", n, name)
		}
		if status.Able(n) {
			t.Errorf("Able(%d) is true", n)
		}
		for _, s := range slices.Concat(all, odd) {
			if status.May(n, s) || status.May(s, n) {
				t.Errorf("there is a step between %d and %d", n, s)
			}
		}
	}
	for n := -300; n <= 300; n++ {
		is := 0 <= n && n <= 4
		if (status.Name(n) != "") != is || status.Able(n) && !is {
			t.Errorf("%d is named %q, and able: %t", n, status.Name(n), status.Able(n))
		}
		for m := -300; m <= 300; m++ {
			if ok := status.May(n, m); ok != isStep(n, m) {
				t.Errorf("May(%d, %d) is %t", n, m, ok)
			}
		}
	}
}

// P9.2: rows by their letters, in which x is no status.
func TestWalk(t *testing.T) {
	for _, c := range []struct {
		l  string
		n  int
		ok bool
	}{
		{"", 0, true},
		{"i", 1, true},
		{"c", 1, true},
		{"r", 1, true},
		{"w", 1, true},
		{"d", 1, true},
		{"x", 0, false},
		{"ic", 2, true},
		{"icrd", 4, true},
		{"icrwcrdic", 9, true},
		{"rcrcrwcrwcrd", 12, true},
		{"ii", 0, false},
		{"cc", 0, false},
		{"rr", 0, false},
		{"ww", 0, false},
		{"dd", 0, false},
		{"ix", 0, false},
		{"xi", 0, false},
		{"xx", 0, false},
		{"id", 0, false},
		{"wr", 0, false},
		{"icd", 1, false},
		{"icx", 1, false},
		{"icrx", 2, false},
		{"icrdx", 3, false},
		{"icxrd", 1, false},
		{"icrrd", 2, false},
		{"icrwrd", 3, false},
		{"icrdd", 3, false},
		{"icrdi", 5, true},
		{"icrdic", 6, true},
		{"icrdir", 4, false},
		{"dii", 1, false},
		{"dwx", 0, false},
		{"icwcx", 1, false},
	} {
		if n, ok := status.Walk(of(c.l)); n != c.n || ok != c.ok {
			t.Errorf("Walk of %q is %d, %t, not %d, %t", c.l, n, ok, c.n, c.ok)
		}
		walked(t, of(c.l))
	}
}

// P9.2, R2: nil and empty are the same.
func TestWalkEmpty(t *testing.T) {
	for _, l := range [][]int{nil, {}, make([]int, 0, 4), all[:0], odd[:0]} {
		if n, ok := status.Walk(l); n != 0 || !ok {
			t.Errorf("Walk of an empty row is %d, %t", n, ok)
		}
	}
}

// P9.2: a row of one, which no step leads from.
func TestWalkOne(t *testing.T) {
	for _, s := range all {
		if n, ok := status.Walk([]int{s}); n != 1 || !ok {
			t.Errorf("Walk of %s is %d, %t", status.Name(s), n, ok)
		}
	}
	for _, s := range odd {
		if n, ok := status.Walk([]int{s}); n != 0 || ok {
			t.Errorf("Walk of %d is %d, %t", s, n, ok)
		}
	}
}

// P9.2: a status behind itself, alone and at each place of a longer row.
func TestWalkTwice(t *testing.T) {
	for _, s := range all {
		if n, ok := status.Walk([]int{s, s}); n != 0 || ok {
			t.Errorf("Walk of %s twice is %d, %t", status.Name(s), n, ok)
		}
	}
	for _, from := range all {
		l := long(from, 0, 40)
		for at := range l {
			twice := slices.Insert(slices.Clone(l), at, l[at])
			if n, ok := status.Walk(twice); n != at || ok {
				t.Errorf("Walk(%v) is %d, %t, not %d", twice, n, ok, at)
			}
		}
	}
}

// P9.2: rows that go on for many steps, and those that are cut off them: what
// stands behind the end is not asked for.
func TestWalkLong(t *testing.T) {
	for _, from := range all {
		for turn := range 3 {
			l := long(from, turn, 100000)
			if n, ok := status.Walk(l); n != len(l) || !ok {
				t.Errorf("Walk of %d is %d, %t", len(l), n, ok)
			}
			for n := range 40 {
				cut := append(slices.Clone(l[:n]), 5, from, from)[:n]
				if is, ok := status.Walk(cut); is != n || !ok {
					t.Errorf("Walk(%v) is %d, %t", cut, is, ok)
				}
			}
		}
	}
}

// P9.2: rows that stop: each number that is no status, and each status, at each
// place of a row; at the begin, in the midst and at the end of a long one.
func TestWalkStops(t *testing.T) {
	for _, from := range all {
		l := long(from, 1, 30)
		for at, was := range l {
			for _, s := range slices.Concat(all, odd) {
				l[at] = s
				walked(t, l)
			}
			l[at] = was
		}
		l = long(from, 2, 10001)
		for _, at := range []int{0, 1, 2, 4999, 5000, 5001, 9999, 10000} {
			was := l[at]
			l[at] = -1
			if n, ok := status.Walk(l); n != max(at-1, 0) || ok {
				t.Errorf("Walk of a row with -1 at %d is %d, %t", at, n, ok)
			}
			l[at] = was
		}
	}
}

// P9.2: of several stops the first one is told.
func TestWalkFirst(t *testing.T) {
	for _, from := range all {
		l := long(from, 0, 24)
		for a := range l {
			for b := range a {
				two := slices.Clone(l)
				two[a], two[b] = 7, -7
				if n, ok := status.Walk(two); n != max(b-1, 0) || ok {
					t.Errorf("Walk(%v) is %d, %t, not %d", two, n, ok, max(b-1, 0))
				}
			}
		}
	}
}

// P9.2, P1, R3: all short rows, of statuses and of what is next to them.
func TestWalkAny(t *testing.T) {
	for n := range 7 {
		inTurns([]int{-1, 0, 1, 2, 3, 4, 5}, n, func(l []int) { walked(t, l) })
	}
	for n := range 3 {
		inTurns(slices.Concat(all, odd), n, func(l []int) { walked(t, l) })
	}
}

// P9.1, P9.2: Walk of two is just what May says of them.
func TestWalkOfTwo(t *testing.T) {
	inTurns(slices.Concat(all, odd), 2, func(l []int) {
		n, ok := status.Walk(l)
		if ok != status.May(l[0], l[1]) || ok && n != 2 || !ok && n != 0 {
			t.Errorf("Walk(%v) is %d, %t", l, n, ok)
		}
	})
}

// P9.3: each status leads to another one.
func TestLeads(t *testing.T) {
	for _, from := range all {
		leads := func(to int) bool { return from != to && status.May(from, to) }
		if !slices.ContainsFunc(all, leads) {
			t.Errorf("%s leads to no other one", status.Name(from))
		}
	}
}

// P9.3: from each status each other one is reached, in so many steps, and no
// fewer.
func TestReached(t *testing.T) {
	far := [5][5]int{
		api.Idle:     {api.Runnable: 1, api.Running: 2, api.Waiting: 3, api.Dead: 3},
		api.Runnable: {api.Idle: 3, api.Running: 1, api.Waiting: 2, api.Dead: 2},
		api.Running:  {api.Idle: 2, api.Runnable: 1, api.Waiting: 1, api.Dead: 1},
		api.Waiting:  {api.Idle: 4, api.Runnable: 1, api.Running: 2, api.Dead: 3},
		api.Dead:     {api.Idle: 1, api.Runnable: 2, api.Running: 3, api.Waiting: 4},
	}
	var is [5][5]int
	for n := 5; n >= 2; n-- {
		inTurns(all, n, func(l []int) {
			if _, ok := status.Walk(l); ok && l[0] != l[n-1] {
				is[l[0]][l[n-1]] = n - 1
			}
		})
	}
	if is != far {
		t.Errorf("they are so far from each other: %v, not %v", is, far)
	}
}

// P9.2, P9.3: each way of four steps from one status to another one, or to
// itself, by its letters; and none but these.
func TestFourSteps(t *testing.T) {
	ways := []string{
		"icrcr", "icrwc", "icrdi",
		"crcrc", "crcrw", "crcrd", "crwcr", "crdic",
		"rcrcr", "rcrwc", "rcrdi", "rwcrc", "rwcrw", "rwcrd", "rdicr",
		"wcrcr", "wcrwc", "wcrdi",
		"dicrc", "dicrw", "dicrd",
	}
	inTurns(all, 5, func(l []int) {
		way := make([]byte, len(l))
		for k, s := range l {
			way[k] = letters[s]
		}
		n, ok := status.Walk(l)
		if ok != slices.Contains(ways, string(way)) || ok && n != 5 || !ok && n > 3 {
			t.Errorf("Walk of %s is %d, %t", way, n, ok)
		}
	})
}
