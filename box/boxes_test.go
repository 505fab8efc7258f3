package box_test

import (
	"math"
	"slices"
	"testing"

	"catafalque/box"
)

// mails are those who wait to send, with what.
type mails = []box.Mail

// odd are numbers and rooms of every kind: next to 0 and to the greatest room,
// far out, and such as cut down to 8 or 32 bits would be another one.
var odd = []int{
	math.MinInt, math.MinInt + 1, -1<<32 - 1, -1 << 32, -256, -9, -8, -2, -1,
	0, 1, 2, 7, 8, 9, 10, 64, 65, 256, 257, 264, 1 << 31, 1 << 32, 1<<32 + 1, 1<<32 + 8, math.MaxInt - 1, math.MaxInt,
}

// sendable are what may be sent, from the least to the greatest.
var sendable = []int64{
	math.MinInt64, math.MinInt64 + 1, -1 << 32, -1 << 31, -1, 0, 1, 1<<31 - 1, 1 << 32, 1<<53 + 1, math.MaxInt64 - 1, math.MaxInt64,
}

// of is a mailbox.
func of(room int, msgs []int64, send mails, recv []int) box.Box {
	return box.Box{Room: room, Msgs: msgs, Send: send, Recv: recv}
}

// alike tells whether two are the same; nil and empty are.
func alike(a, b box.Box) bool {
	return a.Room == b.Room && slices.Equal(a.Msgs, b.Msgs) && slices.Equal(a.Send, b.Send) && slices.Equal(a.Recv, b.Recv)
}

// copied is the same mailbox.
func copied(b box.Box) box.Box {
	return of(b.Room, slices.Clone(b.Msgs), slices.Clone(b.Send), slices.Clone(b.Recv))
}

// with is a row with one behind it.
func with[T any](l []T, x T) []T {
	return slices.Concat(l, []T{x})
}

// sent is what Send should tell.
func sent(b box.Box, g int, n int64) (box.Box, int, bool) {
	u := copied(b)
	switch {
	case len(b.Recv) != 0:
		u.Recv = slices.Delete(u.Recv, 0, 1)
		return u, b.Recv[0], true
	case b.Room > len(b.Msgs):
		u.Msgs = with(b.Msgs, n)
		return u, 0, true
	}
	u.Send = with(b.Send, box.Mail{G: g, N: n})
	return u, 0, false
}

// received is what Recv should tell.
func received(b box.Box, g int) (box.Box, int64, int, bool) {
	u := copied(b)
	switch {
	case len(b.Msgs) == 0 && len(b.Send) == 0:
		u.Recv = with(b.Recv, g)
		return u, 0, 0, false
	case len(b.Send) == 0:
		u.Msgs = slices.Delete(u.Msgs, 0, 1)
		return u, b.Msgs[0], 0, true
	}
	first := b.Send[0]
	u.Send = slices.Delete(u.Send, 0, 1)
	if len(b.Msgs) == 0 {
		return u, first.N, first.G, true
	}
	u.Msgs = with(slices.Delete(u.Msgs, 0, 1), first.N)
	return u, b.Msgs[0], first.G, true
}

// may is what May should tell: each one who waits is held against those who
// were asked of before.
func may(b box.Box) bool {
	senders, receivers := len(b.Send), len(b.Recv)
	switch {
	case b.Room < 0, b.Room > 8, len(b.Msgs) > b.Room:
		return false
	case senders > 0 && len(b.Msgs) != b.Room:
		return false
	case receivers > 0 && senders > 0, receivers > 0 && len(b.Msgs) > 0:
		return false
	}
	asked := map[int]int{}
	for _, m := range b.Send {
		asked[m.G]++
	}
	for _, g := range b.Recv {
		asked[g]++
	}
	for g, often := range asked {
		if g < 1 || often > 1 {
			return false
		}
	}
	return true
}

// sends sends, as the document says it.
func sends(t *testing.T, b box.Box, g int, n int64) (box.Box, int, bool) {
	t.Helper()
	u, to, ok := box.Send(b, g, n)
	if want, whom, is := sent(b, g, n); !alike(u, want) || to != whom || ok != is {
		t.Fatalf("Send(%v, %d, %d) is %v, %d, %t, not %v, %d, %t", b, g, n, u, to, ok, want, whom, is)
	}
	return u, to, ok
}

// receives receives, as the document says it.
func receives(t *testing.T, b box.Box, g int) (box.Box, int64, int, bool) {
	t.Helper()
	u, n, from, ok := box.Recv(b, g)
	if want, what, whose, is := received(b, g); !alike(u, want) || n != what || from != whose || ok != is {
		t.Fatalf("Recv(%v, %d) is %v, %d, %d, %t, not %v, %d, %d, %t", b, g, u, n, from, ok, want, what, whose, is)
	}
	return u, n, from, ok
}

// overwrite writes others over all that stands in a mailbox' memory.
func overwrite(b box.Box, x int) {
	for k := range b.Msgs[:cap(b.Msgs)] {
		b.Msgs[:cap(b.Msgs)][k] = int64(x)
	}
	for k := range b.Send[:cap(b.Send)] {
		b.Send[:cap(b.Send)][k] = box.Mail{G: x, N: int64(x)}
	}
	for k := range b.Recv[:cap(b.Recv)] {
		b.Recv[:cap(b.Recv)][k] = x
	}
}

// asSaid holds all calls against the document's words, and what is handed in
// against what it was, with what stands in the memory behind its rows.
func asSaid(t *testing.T, b box.Box, g int, n int64) {
	t.Helper()
	whole := of(b.Room, with(with(b.Msgs, 71), 72), with(with(b.Send, box.Mail{G: 73, N: 74}), box.Mail{G: 75, N: 76}), with(with(b.Recv, 77), 78))
	was := copied(whole)
	in := of(b.Room, whole.Msgs[:len(b.Msgs)], whole.Send[:len(b.Send)], whole.Recv[:len(b.Recv)])
	s, _, _ := sends(t, in, g, n)
	r, _, _, _ := receives(t, in, g)
	if ok := box.May(in); ok != may(b) {
		t.Fatalf("May(%v) is %t", b, ok)
	}
	if !alike(in, b) || !alike(whole, was) {
		t.Fatalf("%v is %v now, of %v", b, in, whole)
	}
	// What is told has memory of its own: neither is seen to change with the
	// other, nor with what was handed in.
	overwrite(s, -7)
	if want, _, _, _ := received(b, g); !alike(r, want) {
		t.Fatalf("what Recv(%v, %d) told is changed by what Send did", b, g)
	}
	overwrite(r, -8)
	if !alike(whole, was) {
		t.Fatalf("%v is changed by what was told", b)
	}
	s, _, _ = sends(t, in, g, n)
	r, _, _, _ = receives(t, in, g)
	overwrite(whole, -9)
	u, _, _ := sent(b, g, n)
	v, _, _, _ := received(b, g)
	if !alike(s, u) || !alike(r, v) {
		t.Fatalf("what was told of %v is changed by it: %v, %v", b, s, r)
	}
}

// rows are all rows of n of these numbers at most.
func rows(n int, of ...int) [][]int {
	l := [][]int{nil}
	for k := 0; k < len(l); k++ {
		if len(l[k]) < n {
			for _, g := range of {
				l = append(l, with(l[k], g))
			}
		}
	}
	return l
}

// counted are so many Msgs: 100, 101 and on.
func counted(many int) []int64 {
	var l []int64
	for k := range many {
		l = append(l, int64(100+k))
	}
	return l
}

// mailed are these, who wait to send 200, 201 and on.
func mailed(l ...int) mails {
	var m mails
	for k, g := range l {
		m = append(m, box.Mail{G: g, N: int64(200 + k)})
	}
	return m
}

// boxes gives a mailbox of each of the rooms, with each number of Msgs up to
// one more than most, and with each of the rows of those who wait, to send and
// to receive.
func boxes(most int, rooms []int, waiting [][]int, give func(b box.Box)) {
	for _, room := range rooms {
		for msgs := range most + 2 {
			for _, send := range waiting {
				for _, recv := range waiting {
					give(of(room, counted(msgs), mailed(send...), slices.Clone(recv)))
				}
			}
		}
	}
}

// inTurn are the Msgs, and behind them what those have who wait to send.
func inTurn(b box.Box) []int64 {
	l := slices.Clone(b.Msgs)
	for _, m := range b.Send {
		l = append(l, m.N)
	}
	return l
}

// chances gives always the same row of numbers from 0 to below 2^16, one a
// call, that are far from regular.
func chances() func() int {
	x := uint64(11)
	return func() int {
		x ^= x << 13
		x ^= x >> 7
		x ^= x << 17
		return int(x >> 48)
	}
}
