package status_test

import (
	"math"
	"slices"
	"testing"

	"catafalque/api"
	"catafalque/status"
)

// odd are numbers that are no statuses. Cut down to 3, 8, 16 or 32 bits, or
// without the sign, many of them would be one.
var odd = []int{
	math.MinInt, math.MinInt + 1, math.MinInt + 2, math.MinInt + 4, -1 << 32, -1<<32 + 1, -1<<32 + 2, -65536, -256, -255, -128, -8, -7, -6, -5, -4, -3, -2, -1,
	5, 6, 7, 8, 9, 10, 11, 12, 16, 17, 64, 127, 128, 255, 256, 257, 258, 260, 65536, 65537, 65538, 1 << 31, 1 << 32, 1<<32 + 1, 1<<32 + 2, 1<<32 + 4, math.MaxInt - 4, math.MaxInt - 1, math.MaxInt,
}

// all are the statuses.
var all = []int{api.Idle, api.Runnable, api.Running, api.Waiting, api.Dead}

// letters are the statuses', by their numbers: idle, can run, running, waiting,
// dead.
const letters = "icrwd"

// steps are the document's: from each status to each other one to which there
// is one.
var steps = [][2]int{
	{api.Idle, api.Runnable},
	{api.Runnable, api.Running},
	{api.Running, api.Runnable},
	{api.Running, api.Waiting},
	{api.Running, api.Dead},
	{api.Waiting, api.Runnable},
	{api.Dead, api.Idle},
}

// isStep tells whether the document has this step.
func isStep(from, to int) bool {
	return slices.Contains(steps, [2]int{from, to})
}

// of is the row of these letters; another one stands for no status.
func of(s string) []int {
	l := make([]int, len(s))
	for k := range s {
		l[k] = slices.Index([]byte(letters), s[k])
	}
	return l
}

// stop is what Walk should tell of a row: the least place at which something is
// wrong, looked for from behind.
func stop(l []int) (int, bool) {
	at, ok := len(l), true
	for k := len(l) - 1; k >= 0; k-- {
		if !slices.Contains(all, l[k]) {
			at, ok = k, false
		}
		if k > 0 && !isStep(l[k-1], l[k]) {
			at, ok = k-1, false
		}
	}
	return at, ok
}

// walked holds Walk against the document's word, and the row that is handed in
// against what it was.
func walked(t *testing.T, l []int) {
	t.Helper()
	was := slices.Clone(l)
	n, ok := status.Walk(l)
	if at, whole := stop(l); n != at || ok != whole {
		t.Fatalf("Walk(%v) is %d, %t, not %d, %t", l, n, ok, at, whole)
	}
	if !slices.Equal(l, was) {
		t.Fatalf("Walk turned %v into %v", was, l)
	}
}

// inTurns gives all rows of n numbers of these, each in the same memory.
func inTurns(of []int, n int, give func(l []int)) {
	l := make([]int, n)
	var from func(k int)
	from = func(k int) {
		if k == n {
			give(l)
			return
		}
		for _, x := range of {
			l[k] = x
			from(k + 1)
		}
	}
	from(0)
}

// long is a row of so many statuses with steps only: Running goes on to another
// one each time, in turn, and the turn that is told is behind the first.
func long(from, turn, n int) []int {
	var l []int
	for s := from; len(l) < n; {
		l = append(l, s)
		var next []int
		for _, x := range steps {
			if x[0] == s {
				next = append(next, x[1])
			}
		}
		if s == api.Running {
			turn++
		}
		s = next[turn%len(next)]
	}
	return l
}
