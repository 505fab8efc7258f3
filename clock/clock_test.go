package clock_test

import (
	"math"
	"slices"
	"testing"

	"catafalque/api"
	"catafalque/clock"
)

// The document's example.
func TestExample(t *testing.T) {
	c := &clock.Clock{}
	slept(t, c, 1, 3)
	slept(t, c, 2, 2)
	told(t, c, 0, 2, 1)
	woken(t, c, 2, 2)
	told(t, c, 2, 1)
	woken(t, c, 1, 1)
	told(t, c, 3)
}

// P13.1, P13.2: a zero Clock.
func TestZero(t *testing.T) {
	var c clock.Clock
	told(t, &c, 0)
	for _, g := range slices.Concat(odd, nobodies) {
		if c.Wake(g) {
			t.Errorf("Wake(%d) is true", g)
		}
	}
	woken(t, &c, 0)
	told(t, &c, 0)
	woken(t, &c, 5)
	told(t, &c, 5)
	slept(t, &c, 7, 1)
	told(t, &c, 5, 7)
}

// P13.2, P1: each call of a Clock that is nil, with whatever it is handed.
func TestNil(t *testing.T) {
	var c *clock.Clock
	for _, g := range slices.Concat(odd, nobodies, never, []int{500, 1000}) {
		for _, n := range slices.Concat(never, []int{1, 2, 1000}) {
			if no := c.Sleep(g, n); no != api.ErrArg {
				t.Errorf("Sleep(%d, %d) is %d", g, n, no)
			}
		}
		if c.Wake(g) {
			t.Errorf("Wake(%d) is true", g)
		}
	}
	for _, n := range slices.Concat(below, []int64{0, 1, 1000, latest, latest + 1, math.MaxInt64}) {
		if l, no := c.Tick(n); len(l) != 0 || no != api.ErrArg {
			t.Errorf("Tick(%d) is %v, %d", n, l, no)
		}
	}
	told(t, c, 0)
}

// P13.1, P13.3: one that sleeps, for each time there is: up to the tick ahead of
// its end, and no longer than to the end.
func TestOne(t *testing.T) {
	for n := 1; n <= api.MaxSleep; n++ {
		c := &clock.Clock{}
		woken(t, c, 3)
		slept(t, c, 5, n)
		woken(t, c, 0)
		woken(t, c, int64(n-1))
		told(t, c, int64(n+2), 5)
		woken(t, c, 0)
		woken(t, c, 1, 5)
		told(t, c, int64(n+3))
		woken(t, c, 0)
		woken(t, c, 2000)
		told(t, c, int64(n+2003))
	}
}

// P13.3: a tick beyond the end, by little and by much.
func TestBeyond(t *testing.T) {
	for _, n := range []int{1, 2, 500, 999, 1000} {
		for _, more := range []int64{0, 1, 2, 1000, 1 << 32, latest - 1000} {
			c := &clock.Clock{}
			slept(t, c, 5, n)
			woken(t, c, int64(n)+more, 5)
			told(t, c, int64(n)+more)
		}
	}
}

// P13.1: who was to wake first first, whatever the turn was in which they came.
func TestUnlike(t *testing.T) {
	for _, l := range [][]int{{1, 2, 3, 4}, {4, 3, 2, 1}, {2, 4, 1, 3}, {3, 1, 4, 2}} {
		c := &clock.Clock{}
		for _, g := range l {
			slept(t, c, g, 10*g)
		}
		told(t, c, 0, 1, 2, 3, 4)
		woken(t, c, 9)
		woken(t, c, 1, 1)
		told(t, c, 10, 2, 3, 4)
		woken(t, c, 25, 2, 3)
		told(t, c, 35, 4)
		woken(t, c, 4)
		told(t, c, 39, 4)
		woken(t, c, 2, 4)
		told(t, c, 41)
	}
	c := &clock.Clock{}
	for g := range 5 {
		slept(t, c, 5-g, 1000-g)
	}
	woken(t, c, 5000, 1, 2, 3, 4, 5)
}

// P13.1: of those who were to wake at the same time, who came first first,
// whatever their numbers are.
func TestAlike(t *testing.T) {
	for _, l := range [][]int{{1, 2, 3}, {3, 2, 1}, {2, 3, 1}, {9, 1, 64, 2}, {math.MaxInt, 1, 1 << 32}} {
		for _, n := range []int{1, 7, 1000} {
			c := &clock.Clock{}
			for _, g := range l {
				slept(t, c, g, n)
			}
			told(t, c, 0, l...)
			woken(t, c, int64(n-1))
			woken(t, c, 1, l...)
			told(t, c, int64(n))
		}
	}
}

// P13.1: of those who are to wake at the same time, but came at other times, and
// so for other ones; and such as come between them.
func TestAlikeLater(t *testing.T) {
	c := &clock.Clock{}
	slept(t, c, 9, 10)
	woken(t, c, 4)
	slept(t, c, 4, 7)
	slept(t, c, 5, 6)
	slept(t, c, 6, 5)
	told(t, c, 4, 6, 9, 5, 4)
	woken(t, c, 5, 6)
	slept(t, c, 2, 1)
	slept(t, c, 1, 1)
	slept(t, c, 3, 2)
	told(t, c, 9, 9, 5, 2, 1, 4, 3)
	woken(t, c, 1, 9, 5, 2, 1)
	told(t, c, 10, 4, 3)
	woken(t, c, 1, 4, 3)
	told(t, c, 11)
}

// P13.2: one that sleeps is woken: it doesn't sleep, nor wake at its end.
func TestWake(t *testing.T) {
	for g := 1; g <= 4; g++ {
		c := &clock.Clock{}
		for k, n := range []int{3, 1, 2, 2} {
			slept(t, c, k+1, n)
		}
		if !c.Wake(g) {
			t.Fatalf("Wake(%d) is false", g)
		}
		left := slices.DeleteFunc([]int{2, 3, 4, 1}, func(x int) bool { return x == g })
		told(t, c, 0, left...)
		if c.Wake(g) {
			t.Fatalf("Wake(%d) is true the second time", g)
		}
		told(t, c, 0, left...)
		woken(t, c, 5, left...)
		told(t, c, 5)
		for x := range 6 {
			if c.Wake(x) {
				t.Errorf("Wake(%d) is true of one that woke", x)
			}
		}
	}
}

// P13.2: nobody else is woken, and of whoever doesn't sleep nothing changes.
func TestWakeNobody(t *testing.T) {
	c, s := filled(t, 5, 3, 3, 1000)
	ticks(t, c, s, 1)
	for _, g := range slices.Concat(nobodies, odd[4:], []int{5, 6, -3, -4, 1<<32 + 2, 1<<32 + 3}) {
		if c.Wake(g) {
			t.Errorf("Wake(%d) is true", g)
		}
		holds(t, c, s)
	}
	ticks(t, c, s, 2)
	wakes(t, c, s, 2)
	wakes(t, c, s, 1)
	ticks(t, c, s, 2000)
}

// P13.1, P13.2: one sleeps again, behind a wake and behind a Wake; it is behind
// those then who came before that, and the sleep that was cut off is forgotten.
func TestAgain(t *testing.T) {
	c := &clock.Clock{}
	slept(t, c, 1, 5)
	slept(t, c, 2, 10)
	woken(t, c, 5, 1)
	slept(t, c, 1, 5)
	told(t, c, 5, 2, 1)
	if !c.Wake(2) {
		t.Fatal("Wake(2) is false")
	}
	slept(t, c, 2, 5)
	told(t, c, 5, 1, 2)
	if no := c.Sleep(2, 5); no != api.ErrThere {
		t.Fatalf("Sleep(2, 5) is %d", no)
	}
	if !c.Wake(1) {
		t.Fatal("Wake(1) is false")
	}
	slept(t, c, 1, 8)
	woken(t, c, 5, 2)
	told(t, c, 10, 1)
	woken(t, c, 2)
	woken(t, c, 1, 1)
	told(t, c, 13)
	slept(t, c, 1, 1)
	slept(t, c, 2, 1)
	woken(t, c, 1, 1, 2)
}

// P13.2: sleeping for less behind a Wake, one wakes once, and ahead of the end
// that it had.
func TestAgainSooner(t *testing.T) {
	c := &clock.Clock{}
	slept(t, c, 1, 1000)
	slept(t, c, 2, 500)
	if !c.Wake(1) {
		t.Fatal("Wake(1) is false")
	}
	slept(t, c, 1, 1)
	told(t, c, 0, 1, 2)
	woken(t, c, 1, 1)
	woken(t, c, 5000, 2)
}

// P13.1: who sleeps already sleeps on as before, whatever the time is that is
// asked for.
func TestThere(t *testing.T) {
	c, s := filled(t, 5, 3, 3)
	for range 2 {
		for g := 1; g <= 3; g++ {
			for _, n := range []int{1, 2, 3, 5, 6, 999, 1000} {
				if no := c.Sleep(g, n); no != api.ErrThere {
					t.Errorf("Sleep(%d, %d) is %d", g, n, no)
				}
				holds(t, c, s)
			}
		}
		ticks(t, c, s, 2)
	}
	told(t, c, 4, 1)
	if no := c.Sleep(1, 1); no != api.ErrThere {
		t.Errorf("Sleep(1, 1) is %d just ahead of its end", no)
	}
	woken(t, c, 1, 1)
	slept(t, c, 1, 1)
}

// P13.1, R1: Gs and times that may not be; ErrArg comes ahead of ErrThere, and
// nothing changes.
func TestSleepRefused(t *testing.T) {
	c, s := filled(t, 5, 3, 3)
	ticks(t, c, s, 1)
	refuse := func(g, n int) {
		t.Helper()
		if no := c.Sleep(g, n); no != api.ErrArg {
			t.Errorf("Sleep(%d, %d) is %d", g, n, no)
		}
		holds(t, c, s)
	}
	for _, g := range nobodies {
		for _, n := range slices.Concat(never, []int{1, 2, 999, 1000}) {
			refuse(g, n)
		}
	}
	for _, n := range never {
		for _, g := range slices.Concat(odd, []int{1, 2, 3, 4}) {
			refuse(g, n)
		}
	}
	ticks(t, c, s, 2000)
	told(t, c, 2001)
}

// P13.1: Gs of whatever number above 0, the greatest too, each a G of its own.
func TestOddNumbers(t *testing.T) {
	for _, n := range []int{1, 2, 999, 1000} {
		c, s := &clock.Clock{}, &sleepers{}
		for _, g := range odd {
			sleeps(t, c, s, g, n)
			sleeps(t, c, s, g, n)
		}
		ticks(t, c, s, int64(n-1))
		for _, g := range odd[3:7] {
			wakes(t, c, s, g)
			wakes(t, c, s, g)
		}
		ticks(t, c, s, 1)
		told(t, c, int64(n))
	}
}

// P13.1: Sleep for the least and the greatest time.
func TestShortAndLong(t *testing.T) {
	c := &clock.Clock{}
	slept(t, c, 1, 1000)
	slept(t, c, 2, 1)
	slept(t, c, 3, 999)
	slept(t, c, 4, 2)
	told(t, c, 0, 2, 4, 3, 1)
	woken(t, c, 1, 2)
	woken(t, c, 1, 4)
	woken(t, c, 996)
	told(t, c, 998, 3, 1)
	woken(t, c, 1, 3)
	woken(t, c, 1, 1)
	told(t, c, 1000)
}

// P13.1: a tick of 0, behind a Sleep and behind a tick: nobody wakes by it.
func TestTickOfNone(t *testing.T) {
	c := &clock.Clock{}
	woken(t, c, 0)
	told(t, c, 0)
	slept(t, c, 1, 1)
	slept(t, c, 2, 2)
	woken(t, c, 0)
	told(t, c, 0, 1, 2)
	woken(t, c, 1, 1)
	woken(t, c, 0)
	told(t, c, 1, 2)
	if !c.Wake(2) {
		t.Fatal("Wake(2) is false")
	}
	woken(t, c, 0)
	told(t, c, 1)
}

// P13.1, R1: ticks below 0: nothing changes.
func TestTickBelow(t *testing.T) {
	for _, at := range []int64{0, 1, 4, 1 << 32, latest} {
		c, s := &clock.Clock{}, &sleepers{}
		ticks(t, c, s, at)
		sleeps(t, c, s, 1, 5)
		sleeps(t, c, s, 2, 1)
		for _, n := range below {
			if l, no := c.Tick(n); len(l) != 0 || no != api.ErrArg {
				t.Errorf("at %d Tick(%d) is %v, %d", at, n, l, no)
			}
			holds(t, c, s)
		}
		ticks(t, c, s, 0)
		ticks(t, c, s, 1)
		ticks(t, c, s, 4)
	}
}

// P13.1, R1: ticks beyond 2^40, with some whose sleep ends ahead of it: nothing
// changes.
func TestTickOver(t *testing.T) {
	for _, at := range []int64{0, 1, 1 << 39, latest - 1000, latest - 3, latest - 1, latest} {
		c, s := &clock.Clock{}, &sleepers{}
		ticks(t, c, s, at)
		sleeps(t, c, s, 1, 5)
		sleeps(t, c, s, 2, 1)
		for _, n := range []int64{
			latest - at + 1, latest - at + 2, latest + 1, latest + 1000, 1 << 41, 1 << 62,
			math.MaxInt64 - latest, math.MaxInt64 - at, math.MaxInt64 - max(at, 1) + 1, math.MaxInt64 - 1, math.MaxInt64,
		} {
			if l, no := c.Tick(n); len(l) != 0 || no != api.ErrOver {
				t.Errorf("at %d Tick(%d) is %v, %d", at, n, l, no)
			}
			holds(t, c, s)
		}
		ticks(t, c, s, latest-at)
		told(t, c, latest, c.Asleep()...)
		ticks(t, c, s, 0)
	}
}

// P13.1: up to 2^40 by a tick, and no farther; who is to wake behind it sleeps
// on, and may be woken.
func TestLatest(t *testing.T) {
	c := &clock.Clock{}
	woken(t, c, 1<<40-2)
	slept(t, c, 1, 3)
	slept(t, c, 2, 2)
	slept(t, c, 3, 1)
	told(t, c, 1<<40-2, 3, 2, 1)
	woken(t, c, 2, 3, 2)
	told(t, c, 1<<40, 1)
	if l, no := c.Tick(1); len(l) != 0 || no != api.ErrOver {
		t.Errorf("Tick(1) is %v, %d at 2^40", l, no)
	}
	told(t, c, 1<<40, 1)
	woken(t, c, 0)
	slept(t, c, 2, 1)
	slept(t, c, 3, 1000)
	told(t, c, 1<<40, 1, 2, 3)
	if no := c.Sleep(3, 1); no != api.ErrThere {
		t.Errorf("Sleep(3, 1) is %d", no)
	}
	if !c.Wake(1) || !c.Wake(3) || c.Wake(1) {
		t.Error("Wake at 2^40")
	}
	told(t, c, 1<<40, 2)
	if l, no := c.Tick(math.MaxInt64); len(l) != 0 || no != api.ErrOver {
		t.Errorf("Tick(MaxInt64) is %v, %d at 2^40", l, no)
	}
	told(t, c, 1<<40, 2)
}

// P13.1: 2^40 ticks at once, and one by one at last.
func TestLatestAtOnce(t *testing.T) {
	c := &clock.Clock{}
	slept(t, c, 8, 1000)
	slept(t, c, 7, 1)
	woken(t, c, 1<<40, 7, 8)
	told(t, c, 1<<40)
	c, s := &clock.Clock{}, &sleepers{}
	ticks(t, c, s, latest-4)
	for g := 1; g <= 6; g++ {
		sleeps(t, c, s, g, g)
	}
	for range 6 {
		ticks(t, c, s, 1)
	}
	told(t, c, latest, 5, 6)
}

// P13.1 to P13.3: all 64, in whatever turn they come, for unlike times and for
// like ones, woken tick by tick and by longer ones.
func TestMany(t *testing.T) {
	for seed := range 6 {
		for _, times := range []int{1, 2, 7, 64, 1000} {
			for _, step := range []int64{1, 3, 64, 1001} {
				m := mixer(seed)
				c, s := &clock.Clock{}, &sleepers{}
				for _, g := range mixed(seed, api.MaxGs) {
					sleeps(t, c, s, g, 1+m.below(times))
				}
				for g := 1; g <= api.MaxGs; g += 9 {
					wakes(t, c, s, g)
				}
				for k := 0; len(s.l) > 0 && k < 1000; k++ {
					ticks(t, c, s, step)
				}
				told(t, c, s.now)
			}
		}
	}
}

// P13.1: more than there are Gs of a machine: each of 1000 for a time of its
// own, and all for the same.
func TestMore(t *testing.T) {
	l := mixed(3, 1000)
	c, d := &clock.Clock{}, &clock.Clock{}
	for _, g := range l {
		slept(t, c, g, g)
		slept(t, d, g, 1000)
	}
	told(t, d, 0, l...)
	for g := 1; g <= 999; g++ {
		woken(t, c, 1, g)
		woken(t, d, 1)
	}
	woken(t, c, 1, 1000)
	woken(t, d, 1, l...)
	told(t, c, 1000)
	told(t, d, 1000)
}

// P13.3: two ticks wake whom one of both together wakes, in the same turn,
// wherever the one is cut.
func TestTwoTicks(t *testing.T) {
	for seed := range 8 {
		for all := int64(0); all <= 24; all++ {
			for first := int64(0); first <= all; first++ {
				m := mixer(seed)
				c, d := &clock.Clock{}, &clock.Clock{}
				for k, g := range mixed(seed, 12) {
					n := 1 + m.below(20)
					slept(t, c, g, n)
					slept(t, d, g, n)
					if k%3 == 2 {
						woken(t, c, 0)
						woken(t, d, 0)
					}
				}
				l, no := c.Tick(first)
				more, is := c.Tick(all - first)
				whole, was := d.Tick(all)
				if no != api.OK || is != api.OK || was != api.OK {
					t.Fatalf("Tick is %d, %d, %d", no, is, was)
				}
				if !slices.Equal(slices.Concat(l, more), whole) {
					t.Fatalf("Tick(%d), Tick(%d) are %v, %v; of both together %v", first, all-first, l, more, whole)
				}
				told(t, c, d.Now(), d.Asleep()...)
			}
		}
	}
}

// P13.3: some ticks, one by one, one of all together, and one beyond the end of
// all.
func TestTickByTick(t *testing.T) {
	times := []int{9, 4, 4, 1, 30, 4, 9, 2, 30, 1000}
	c, _ := filled(t, times...)
	d, _ := filled(t, times...)
	e, _ := filled(t, times...)
	var one []int
	for range 1000 {
		l, no := c.Tick(1)
		if no != api.OK {
			t.Fatalf("Tick(1) is %d", no)
		}
		one = append(one, l...)
	}
	want := []int{4, 8, 2, 3, 6, 1, 7, 5, 9, 10}
	if !slices.Equal(one, want) {
		t.Errorf("%v", one)
	}
	woken(t, d, 1000, want...)
	woken(t, e, latest, want...)
	told(t, c, 1000)
	told(t, d, 1000)
}

// P13.1 to P13.3: each row of six calls, out of eight.
func TestEveryRow(t *testing.T) {
	everyRow(8, 6, func(row []int) {
		c, s := &clock.Clock{}, &sleepers{}
		for _, x := range row {
			switch x {
			case 0, 1:
				sleeps(t, c, s, 2, 1+x)
			case 2, 3:
				sleeps(t, c, s, 1, x-1)
			case 4, 5:
				ticks(t, c, s, int64(x-3))
			default:
				wakes(t, c, s, x-5)
			}
		}
		ticks(t, c, s, 2)
		if len(c.Asleep()) != 0 {
			t.Fatalf("%v: Asleep() is %v at last", row, c.Asleep())
		}
	})
}

// P13.1 to P13.3: long rows of calls, wrong ones among them.
func TestMixed(t *testing.T) {
	for seed := range 60 {
		m := mixer(seed)
		c, s := &clock.Clock{}, &sleepers{}
		for range 500 {
			switch m.below(10) {
			case 0:
				wakes(t, c, s, m.below(14)-1)
			case 1, 2, 3:
				ticks(t, c, s, int64(m.below(8)-1))
			case 4:
				ticks(t, c, s, latest-s.now+1+int64(m.below(5)))
			default:
				sleeps(t, c, s, m.below(14)-1, m.below(14)-1)
			}
		}
		ticks(t, c, s, 1000)
		told(t, c, s.now)
	}
}

// R3: what is told stays as it was when the clock is turned, and what is
// written over it, or over the room behind it, is not in the clock.
func TestToldStays(t *testing.T) {
	c, s := filled(t, 4, 2, 2, 9, 2, 9)
	asleep := c.Asleep()
	kept := slices.Clone(asleep)
	ticks(t, c, s, 1)
	l, no := c.Tick(3)
	s.tick(3)
	if !slices.Equal(l, []int{2, 3, 5, 1}) || no != api.OK {
		t.Fatalf("Tick(3) is %v, %d", l, no)
	}
	sleeps(t, c, s, 7, 1)
	wakes(t, c, s, 6)
	sleeps(t, c, s, 2, 3)
	if !slices.Equal(asleep, kept) || !slices.Equal(l, []int{2, 3, 5, 1}) {
		t.Errorf("Asleep() was %v, and is %v; Tick(3) is %v", kept, asleep, l)
	}
	again := c.Asleep()
	for _, x := range [][]int{asleep, l, again} {
		for k := range x {
			x[k] = 77
		}
		_ = append(x, 78, 79, 80)
		_ = append(x[:0], 81)
		holds(t, c, s)
	}
	ticks(t, c, s, 1)
	ticks(t, c, s, 1000)
	if slices.ContainsFunc(l, func(g int) bool { return g != 77 && g != 81 }) {
		t.Errorf("%v", l)
	}
}

// R4: clocks have nothing of each other, and what is asked keeps all as it is.
func TestApart(t *testing.T) {
	c, r := filled(t, 3, 1)
	d, s := filled(t)
	sleeps(t, d, s, 2, 7)
	sleeps(t, d, s, 5, 7)
	holds(t, c, r)
	ticks(t, c, r, 2)
	holds(t, d, s)
	wakes(t, d, s, 1)
	wakes(t, d, s, 2)
	holds(t, c, r)
	ticks(t, c, r, 1)
	ticks(t, d, s, latest)
	holds(t, c, r)
	told(t, c, 3)
	told(t, d, latest)
}
