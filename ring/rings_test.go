package ring_test

import (
	"math"
	"slices"

	"catafalque/ring"
)

// odd are numbers and sizes that are out of every bound, or beside one.
var odd = []int{math.MinInt, math.MinInt + 1, -64, -2, -1, 0, 1, 2, 3, 64, 65, math.MaxInt - 1, math.MaxInt}

// row is the numbers from a to b.
func row(a, b int) []int {
	var l []int
	for g := a; g <= b; g++ {
		l = append(l, g)
	}
	return l
}

// alike tells whether two rings have the same next one, and the same others.
func alike(a, b ring.Ring) bool {
	return a.Next == b.Next && slices.Equal(a.L, b.L)
}

// rings gives all of the next ones and rows of up to n of these numbers.
func rings(n int, of []int, give func(r ring.Ring)) {
	rows := [][]int{nil}
	for k := 0; k < len(rows); k++ {
		for _, next := range of {
			give(ring.Ring{Next: next, L: slices.Clone(rows[k])})
		}
		if len(rows[k]) < n {
			for _, g := range of {
				rows = append(rows, append(slices.Clone(rows[k]), g))
			}
		}
	}
}

// added is what Add tells, one by one of the row.
func added(r ring.Ring, g, size int) (ring.Ring, []int) {
	if size < 2 {
		size = 2
	}
	half := 0
	if size <= len(r.L) {
		for half+half+2 <= size {
			half++
		}
	}
	var told, rest []int
	for k, x := range r.L {
		if k < half {
			told = append(told, x)
		} else {
			rest = append(rest, x)
		}
	}
	if half > 0 {
		return ring.Ring{Next: r.Next, L: rest}, append(told, g)
	}
	return ring.Ring{Next: r.Next, L: append(rest, g)}, nil
}

// put is what Put tells.
func put(r ring.Ring, g, size int) (ring.Ring, []int) {
	var told []int
	if r.Next != 0 {
		r, told = added(r, r.Next, size)
	}
	return ring.Ring{Next: g, L: r.L}, told
}

// taken is what Take tells.
func taken(r ring.Ring) (ring.Ring, int) {
	switch {
	case r.Next != 0:
		return ring.Ring{L: r.L}, r.Next
	case len(r.L) == 0:
		return r, 0
	}
	return ring.Ring{L: r.L[1:]}, r.L[0]
}

// halved is what Half tells: in turn, while no more stay than would be told.
func halved(r ring.Ring) (ring.Ring, []int) {
	if len(r.L) == 0 {
		if r.Next == 0 {
			return r, nil
		}
		return ring.Ring{}, []int{r.Next}
	}
	n := 1
	for len(r.L)-n > n {
		n++
	}
	return ring.Ring{Next: r.Next, L: r.L[n:]}, r.L[:n]
}

// all is what All tells.
func all(r ring.Ring) []int {
	if r.Next == 0 {
		return r.L
	}
	return slices.Concat([]int{r.Next}, r.L)
}

// may is what May tells: each one held against all others.
func may(r ring.Ring, size int) bool {
	if size < 2 {
		size = 2
	}
	l := all(r)
	for k, g := range l {
		if g <= 0 || slices.Contains(l[:k], g) {
			return false
		}
	}
	return len(r.L) <= size
}

// sorted is all of the rows but 0, which is nobody, rising.
func sorted(rows ...[]int) []int {
	l := slices.DeleteFunc(slices.Concat(rows...), func(g int) bool { return g == 0 })
	slices.Sort(l)
	return l
}
