package clock_test

import (
	"math"
	"slices"
	"testing"

	"catafalque/api"
	"catafalque/clock"
)

// latest is the last time that there is.
const latest int64 = 1 << 40

// nobodies are numbers that no G has.
var nobodies = []int{math.MinInt, math.MinInt + 1, -1 << 32, -1<<32 + 1, -64, -2, -1, 0}

// odd are numbers that Gs may have, up to the greatest; of some of them others
// are left when they are cut down to fewer bits.
var odd = []int{1, 2, 63, 64, 65, 255, 256, 257, 1<<31 - 1, 1 << 31, 1 << 32, 1<<32 + 1, 1<<53 + 1, math.MaxInt - 1, math.MaxInt}

// never are numbers of ticks for which nobody may sleep.
var never = []int{math.MinInt, math.MinInt + 1, -1 << 32, -1<<32 + 1, -1000, -1, 0, 1001, 1002, 1 << 32, 1<<32 + 1, math.MaxInt - 1, math.MaxInt}

// below are numbers of ticks that don't go by.
var below = []int64{math.MinInt64, math.MinInt64 + 1, -1 << 41, -1 << 40, -1 << 32, -1<<32 + 1, -1000, -1}

// sleeper is one that sleeps, and when that ends.
type sleeper struct {
	g   int
	end int64
}

// sleepers are what a clock should hold: in the turn in which they came.
type sleepers struct {
	now int64
	l   []sleeper
}

// in tells those whose sleep ends at that time, in the turn in which they came.
func (s *sleepers) in(end int64) []int {
	var l []int
	for _, x := range s.l {
		if x.end == end {
			l = append(l, x.g)
		}
	}
	return l
}

// until is who wakes up to that time, as they are to wake.
func (s *sleepers) until(last int64) []int {
	var ends []int64
	for _, x := range s.l {
		if x.end <= last {
			ends = append(ends, x.end)
		}
	}
	slices.Sort(ends)
	var l []int
	for _, end := range slices.Compact(ends) {
		l = append(l, s.in(end)...)
	}
	return l
}

// sleeps tells whether a G is one of them.
func (s *sleepers) sleeps(g int) bool {
	for _, x := range s.l {
		if x.g == g {
			return true
		}
	}
	return false
}

// without lets some of them go.
func (s *sleepers) without(gone []int) {
	var left []sleeper
	for _, x := range s.l {
		if !slices.Contains(gone, x.g) {
			left = append(left, x)
		}
	}
	s.l = left
}

// sleep is what Sleep should tell.
func (s *sleepers) sleep(g, n int) api.Errno {
	switch {
	case g <= 0 || n <= 0 || n > 1000:
		return api.ErrArg
	case s.sleeps(g):
		return api.ErrThere
	}
	s.l = append(s.l, sleeper{g, s.now + int64(n)})
	return api.OK
}

// tick is what Tick should tell.
func (s *sleepers) tick(n int64) ([]int, api.Errno) {
	switch {
	case n < 0:
		return nil, api.ErrArg
	case n > latest || s.now+n > latest:
		return nil, api.ErrOver
	}
	s.now += n
	woken := s.until(s.now)
	s.without(woken)
	return woken, api.OK
}

// wake is what Wake should tell.
func (s *sleepers) wake(g int) bool {
	did := s.sleeps(g)
	s.without([]int{g})
	return did
}

// holds asks a clock for all that it tells, which should be these, twice: it
// stays as it is then.
func holds(t *testing.T, c *clock.Clock, s *sleepers) {
	t.Helper()
	for range 2 {
		if now := c.Now(); now != s.now {
			t.Fatalf("Now() is %d, not %d", now, s.now)
		}
		if l, want := c.Asleep(), s.until(math.MaxInt64); !slices.Equal(l, want) {
			t.Fatalf("at %d Asleep() is %v, not %v", s.now, l, want)
		}
	}
}

// sleeps lets a G sleep in a clock, and beside it, which should tell the same.
func sleeps(t *testing.T, c *clock.Clock, s *sleepers, g, n int) {
	t.Helper()
	now, want := s.now, s.sleep(g, n)
	if no := c.Sleep(g, n); no != want {
		t.Fatalf("at %d Sleep(%d, %d) is %d, not %d", now, g, n, no, want)
	}
	holds(t, c, s)
}

// ticks lets time go by in a clock, and beside it, which should tell the same.
func ticks(t *testing.T, c *clock.Clock, s *sleepers, n int64) {
	t.Helper()
	now := s.now
	want, no := s.tick(n)
	if l, is := c.Tick(n); !slices.Equal(l, want) || is != no {
		t.Fatalf("at %d Tick(%d) is %v, %d, not %v, %d", now, n, l, is, want, no)
	}
	holds(t, c, s)
}

// wakes wakes a G in a clock, and beside it, which should tell the same.
func wakes(t *testing.T, c *clock.Clock, s *sleepers, g int) {
	t.Helper()
	now, want := s.now, s.wake(g)
	if did := c.Wake(g); did != want {
		t.Fatalf("at %d Wake(%d) is %t, not %t", now, g, did, want)
	}
	holds(t, c, s)
}

// filled is a clock in which the Gs 1, 2 and so on sleep for those times, all
// from its begin on, and they beside it.
func filled(t *testing.T, times ...int) (*clock.Clock, *sleepers) {
	t.Helper()
	c, s := &clock.Clock{}, &sleepers{}
	for k, n := range times {
		sleeps(t, c, s, k+1, n)
	}
	return c, s
}

// told asks a clock for its time and who sleeps, and holds them against those.
func told(t *testing.T, c *clock.Clock, now int64, asleep ...int) {
	t.Helper()
	if is := c.Now(); is != now {
		t.Fatalf("Now() is %d, not %d", is, now)
	}
	if l := c.Asleep(); !slices.Equal(l, asleep) {
		t.Fatalf("at %d Asleep() is %v, not %v", now, l, asleep)
	}
}

// slept lets a G sleep, which goes.
func slept(t *testing.T, c *clock.Clock, g, n int) {
	t.Helper()
	if no := c.Sleep(g, n); no != api.OK {
		t.Fatalf("Sleep(%d, %d) is %d", g, n, no)
	}
}

// woken lets time go by, which goes, and wakes those.
func woken(t *testing.T, c *clock.Clock, n int64, want ...int) {
	t.Helper()
	if l, no := c.Tick(n); !slices.Equal(l, want) || no != api.OK {
		t.Fatalf("Tick(%d) is %v, %d, not %v", n, l, no, want)
	}
}

// mixer tells numbers in a turn that looks like none, the same each time.
type mixer uint32

// below is a number from 0 to k - 1.
func (m *mixer) below(k int) int {
	*m = *m*1664525 + 1013904223
	return int(*m>>8) % k
}

// mixed are the numbers from 1 to k, in a turn that looks like none.
func mixed(seed, k int) []int {
	m := mixer(seed)
	l := make([]int, k)
	for i := range l {
		j := m.below(i + 1)
		l[i], l[j] = l[j], i+1
	}
	return l
}

// everyRow calls for each row of so many numbers from 0 to k - 1.
func everyRow(k, long int, call func(row []int)) {
	row := make([]int, long)
	var turn func(at int)
	turn = func(at int) {
		if at == long {
			call(row)
			return
		}
		for x := range k {
			row[at] = x
			turn(at + 1)
		}
	}
	turn(0)
}
