package box_test

import (
	"math"
	"slices"
	"testing"

	"catafalque/box"
)

const (
	least    = math.MinInt64
	greatest = math.MaxInt64
)

// The document's example.
func TestExample(t *testing.T) {
	b, woken, ok := box.Send(box.Box{Room: 1}, 1, 5)
	if !alike(b, of(1, []int64{5}, nil, nil)) || woken != 0 || !ok {
		t.Fatalf("sent 5: %v, %d, %t", b, woken, ok)
	}
	b, woken, ok = box.Send(b, 2, 6)
	if !alike(b, of(1, []int64{5}, mails{{2, 6}}, nil)) || woken != 0 || ok {
		t.Fatalf("sent 6: %v, %d, %t", b, woken, ok)
	}
	b, n, woken, ok := box.Recv(b, 3)
	if !alike(b, of(1, []int64{6}, nil, nil)) || n != 5 || woken != 2 || !ok {
		t.Fatalf("received: %v, %d, %d, %t", b, n, woken, ok)
	}
}

// P11.1: to who waits to receive, else behind the Msgs, if there is room; else
// who sends waits, behind the others.
func TestSend(t *testing.T) {
	eight := counted(8)
	for _, c := range []struct {
		b    box.Box
		g    int
		n    int64
		want box.Box
		who  int
		ok   bool
	}{
		// There is room, and nobody waits.
		{of(1, nil, nil, nil), 3, 5, of(1, []int64{5}, nil, nil), 0, true},
		{of(2, nil, nil, nil), 3, 0, of(2, []int64{0}, nil, nil), 0, true},
		{of(2, []int64{5}, nil, nil), 3, 5, of(2, []int64{5, 5}, nil, nil), 0, true},
		{of(3, []int64{5, 6}, nil, nil), 3, 4, of(3, []int64{5, 6, 4}, nil, nil), 0, true},
		{of(8, eight[:7], nil, nil), 3, 107, of(8, eight, nil, nil), 0, true},
		{of(9, eight, nil, nil), 3, 108, of(9, counted(9), nil, nil), 0, true},
		{of(math.MaxInt, eight, nil, nil), 3, 108, of(math.MaxInt, counted(9), nil, nil), 0, true},
		{of(2, []int64{least}, nil, nil), 3, greatest, of(2, []int64{least, greatest}, nil, nil), 0, true},
		{of(2, []int64{greatest}, nil, nil), 3, least, of(2, []int64{greatest, least}, nil, nil), 0, true},
		// There is no room: it waits, with what it sends.
		{of(0, nil, nil, nil), 3, 5, of(0, nil, mails{{3, 5}}, nil), 0, false},
		{of(0, nil, nil, nil), 3, least, of(0, nil, mails{{3, least}}, nil), 0, false},
		{of(0, nil, mails{{4, 5}}, nil), 3, greatest, of(0, nil, mails{{4, 5}, {3, greatest}}, nil), 0, false},
		{of(1, []int64{5}, nil, nil), 3, 6, of(1, []int64{5}, mails{{3, 6}}, nil), 0, false},
		{of(1, []int64{5}, mails{{4, 6}, {2, 9}}, nil), 3, 7, of(1, []int64{5}, mails{{4, 6}, {2, 9}, {3, 7}}, nil), 0, false},
		{of(8, eight, nil, nil), 3, 5, of(8, eight, mails{{3, 5}}, nil), 0, false},
		{of(9, counted(9), nil, nil), 3, 5, of(9, counted(9), mails{{3, 5}}, nil), 0, false},
		// Nor is there, if there are more Msgs, or the room is below 0.
		{of(1, []int64{5, 6}, nil, nil), 3, 7, of(1, []int64{5, 6}, mails{{3, 7}}, nil), 0, false},
		{of(-1, nil, nil, nil), 3, 5, of(-1, nil, mails{{3, 5}}, nil), 0, false},
		{of(math.MinInt, nil, mails{{4, 6}}, nil), 3, 5, of(math.MinInt, nil, mails{{4, 6}, {3, 5}}, nil), 0, false},
		// Somebody waits to receive: the first one has it.
		{of(0, nil, nil, []int{7}), 3, 5, of(0, nil, nil, nil), 7, true},
		{of(0, nil, nil, []int{7, 4, 9}), 3, 5, of(0, nil, nil, []int{4, 9}), 7, true},
		{of(1, nil, nil, []int{7}), 3, 5, of(1, nil, nil, nil), 7, true},
		{of(8, nil, nil, []int{9, 4, 7}), 3, least, of(8, nil, nil, []int{4, 7}), 9, true},
		// Also where nobody should wait.
		{of(2, []int64{5}, nil, []int{7, 4}), 3, 6, of(2, []int64{5}, nil, []int{4}), 7, true},
		{of(1, []int64{5}, mails{{2, 6}}, []int{7}), 3, 8, of(1, []int64{5}, mails{{2, 6}}, nil), 7, true},
		{of(-1, []int64{5}, nil, []int{7}), 3, 6, of(-1, []int64{5}, nil, nil), 7, true},
		{of(3, []int64{5}, mails{{2, 6}}, nil), 3, 8, of(3, []int64{5, 8}, mails{{2, 6}}, nil), 0, true},
		// Numbers are taken as they come; so is one that waits already.
		{of(0, nil, nil, nil), 0, 5, of(0, nil, mails{{0, 5}}, nil), 0, false},
		{of(0, nil, mails{{-1, 6}}, nil), math.MinInt, 5, of(0, nil, mails{{-1, 6}, {math.MinInt, 5}}, nil), 0, false},
		{of(0, nil, mails{{3, 6}}, nil), 3, 6, of(0, nil, mails{{3, 6}, {3, 6}}, nil), 0, false},
		{of(1, nil, nil, nil), 0, 5, of(1, []int64{5}, nil, nil), 0, true},
		{of(1, nil, mails{{3, 6}}, nil), 3, 5, of(1, []int64{5}, mails{{3, 6}}, nil), 0, true},
		{of(1, nil, nil, []int{0, 3}), 3, 5, of(1, nil, nil, []int{3}), 0, true},
		{of(1, nil, nil, []int{-4}), -4, 5, of(1, nil, nil, nil), -4, true},
		{of(1, nil, nil, []int{3, 3}), 3, 5, of(1, nil, nil, []int{3}), 3, true},
		{of(0, nil, mails{{3, 6}}, []int{3}), 3, 5, of(0, nil, mails{{3, 6}}, nil), 3, true},
	} {
		u, who, ok := box.Send(c.b, c.g, c.n)
		if !alike(u, c.want) || who != c.who || ok != c.ok {
			t.Errorf("Send(%v, %d, %d) is %v, %d, %t, not %v, %d, %t", c.b, c.g, c.n, u, who, ok, c.want, c.who, c.ok)
		}
		asSaid(t, c.b, c.g, c.n)
	}
}

// P11.2: the first one of the Msgs, behind which who waits to send goes through;
// without Msgs what that one has; else who receives waits, behind the others.
func TestRecv(t *testing.T) {
	eight := counted(8)
	for _, c := range []struct {
		b    box.Box
		g    int
		want box.Box
		n    int64
		who  int
		ok   bool
	}{
		// There are Msgs, and nobody waits.
		{of(1, []int64{5}, nil, nil), 3, of(1, nil, nil, nil), 5, 0, true},
		{of(2, []int64{5, 6}, nil, nil), 3, of(2, []int64{6}, nil, nil), 5, 0, true},
		{of(2, []int64{0, 0}, nil, nil), 3, of(2, []int64{0}, nil, nil), 0, 0, true},
		{of(8, eight, nil, nil), 3, of(8, eight[1:], nil, nil), 100, 0, true},
		{of(8, eight[2:4], nil, nil), 3, of(8, eight[3:4], nil, nil), 102, 0, true},
		{of(9, counted(9), nil, nil), 3, of(9, counted(9)[1:], nil, nil), 100, 0, true},
		{of(2, []int64{least, greatest}, nil, nil), 3, of(2, []int64{greatest}, nil, nil), least, 0, true},
		{of(2, []int64{greatest, least}, nil, nil), 3, of(2, []int64{least}, nil, nil), greatest, 0, true},
		// And somebody waits to send: behind them goes what the first one has.
		{of(1, []int64{5}, mails{{4, 6}}, nil), 3, of(1, []int64{6}, nil, nil), 5, 4, true},
		{of(1, []int64{5}, mails{{4, least}, {2, 7}}, nil), 3, of(1, []int64{least}, mails{{2, 7}}, nil), 5, 4, true},
		{of(3, []int64{5, 6, 7}, mails{{4, 5}}, nil), 3, of(3, []int64{6, 7, 5}, nil, nil), 5, 4, true},
		{of(8, eight, mails{{9, 108}, {1, 0}, {4, 3}}, nil), 3, of(8, counted(9)[1:], mails{{1, 0}, {4, 3}}, nil), 100, 9, true},
		// There are none, but somebody waits to send.
		{of(0, nil, mails{{4, 6}}, nil), 3, of(0, nil, nil, nil), 6, 4, true},
		{of(0, nil, mails{{4, least}, {2, 7}}, nil), 3, of(0, nil, mails{{2, 7}}, nil), least, 4, true},
		{of(0, nil, mails{{4, greatest}, {2, 7}, {9, 8}}, nil), 3, of(0, nil, mails{{2, 7}, {9, 8}}, nil), greatest, 4, true},
		// There is nothing.
		{of(0, nil, nil, nil), 3, of(0, nil, nil, []int{3}), 0, 0, false},
		{of(1, nil, nil, nil), 3, of(1, nil, nil, []int{3}), 0, 0, false},
		{of(8, nil, nil, []int{7}), 3, of(8, nil, nil, []int{7, 3}), 0, 0, false},
		{of(9, nil, nil, []int{7, 1, 9}), 3, of(9, nil, nil, []int{7, 1, 9, 3}), 0, 0, false},
		{of(-1, nil, nil, nil), 3, of(-1, nil, nil, []int{3}), 0, 0, false},
		{of(math.MinInt, nil, nil, []int{7}), 3, of(math.MinInt, nil, nil, []int{7, 3}), 0, 0, false},
		// Whatever the room is, and whoever should not wait.
		{of(1, []int64{5, 6, 7}, nil, nil), 3, of(1, []int64{6, 7}, nil, nil), 5, 0, true},
		{of(1, []int64{5, 6}, mails{{4, 8}}, nil), 3, of(1, []int64{6, 8}, nil, nil), 5, 4, true},
		{of(0, []int64{5}, mails{{4, 8}}, nil), 3, of(0, []int64{8}, nil, nil), 5, 4, true},
		{of(-1, []int64{5}, nil, nil), 3, of(-1, nil, nil, nil), 5, 0, true},
		{of(-1, nil, mails{{4, 8}}, nil), 3, of(-1, nil, nil, nil), 8, 4, true},
		{of(4, []int64{5}, mails{{4, 8}, {2, 9}}, nil), 3, of(4, []int64{8}, mails{{2, 9}}, nil), 5, 4, true},
		{of(4, nil, mails{{4, 8}, {2, 9}}, nil), 3, of(4, nil, mails{{2, 9}}, nil), 8, 4, true},
		{of(1, []int64{5}, nil, []int{7}), 3, of(1, nil, nil, []int{7}), 5, 0, true},
		{of(0, nil, mails{{4, 8}}, []int{7, 9}), 3, of(0, nil, nil, []int{7, 9}), 8, 4, true},
		{of(1, []int64{5}, mails{{4, 8}}, []int{7}), 3, of(1, []int64{8}, nil, []int{7}), 5, 4, true},
		// Numbers are taken as they come; so is one that waits already.
		{of(1, nil, nil, nil), 0, of(1, nil, nil, []int{0}), 0, 0, false},
		{of(1, nil, nil, []int{-1}), math.MinInt, of(1, nil, nil, []int{-1, math.MinInt}), 0, 0, false},
		{of(1, nil, nil, []int{3}), 3, of(1, nil, nil, []int{3, 3}), 0, 0, false},
		{of(1, []int64{5}, nil, nil), -3, of(1, nil, nil, nil), 5, 0, true},
		{of(1, []int64{5}, mails{{0, 8}}, nil), 3, of(1, []int64{8}, nil, nil), 5, 0, true},
		{of(0, nil, mails{{-4, 8}}, nil), 0, of(0, nil, nil, nil), 8, -4, true},
		{of(0, nil, mails{{3, 8}, {3, 9}}, nil), 3, of(0, nil, mails{{3, 9}}, nil), 8, 3, true},
		{of(0, nil, mails{{3, 8}}, []int{3}), 3, of(0, nil, nil, []int{3}), 8, 3, true},
	} {
		u, n, who, ok := box.Recv(c.b, c.g)
		if !alike(u, c.want) || n != c.n || who != c.who || ok != c.ok {
			t.Errorf("Recv(%v, %d) is %v, %d, %d, %t, not %v, %d, %d, %t", c.b, c.g, u, n, who, ok, c.want, c.n, c.who, c.ok)
		}
		asSaid(t, c.b, c.g, 5)
	}
}

// P11.3: a room from 0 to 8, and no more Msgs; nobody who waits for what there
// is; and those who wait above 0, each once.
func TestMay(t *testing.T) {
	eight, nine := counted(8), counted(9)
	for _, c := range []struct {
		b    box.Box
		want bool
	}{
		// The room.
		{of(0, nil, nil, nil), true},
		{of(1, nil, nil, nil), true},
		{of(8, nil, nil, nil), true},
		{of(9, nil, nil, nil), false},
		{of(10, nil, nil, nil), false},
		{of(257, nil, nil, nil), false},
		{of(1<<32+1, nil, nil, nil), false},
		{of(math.MaxInt, nil, nil, nil), false},
		{of(-1, nil, nil, nil), false},
		{of(-8, nil, nil, nil), false},
		{of(math.MinInt, nil, nil, nil), false},
		{of(math.MinInt+8, nil, nil, nil), false},
		{of(9, nine, mailed(7), nil), false},
		{of(9, nil, nil, []int{7}), false},
		{of(-1, nil, mailed(7), nil), false},
		{of(-1, nil, nil, []int{7}), false},
		// As many Msgs as that, one fewer, one more.
		{of(0, []int64{5}, nil, nil), false},
		{of(1, []int64{5}, nil, nil), true},
		{of(1, []int64{5, 5}, nil, nil), false},
		{of(2, []int64{least}, nil, nil), true},
		{of(2, []int64{least, greatest}, nil, nil), true},
		{of(8, eight[:7], nil, nil), true},
		{of(8, eight, nil, nil), true},
		{of(8, nine, nil, nil), false},
		{of(9, eight, nil, nil), false},
		{of(9, nine, nil, nil), false},
		{of(8, make([]int64, 264), nil, nil), false},
		// Nobody waits to send, if there is room.
		{of(0, nil, mailed(7), nil), true},
		{of(0, nil, mailed(7, 3, 9), nil), true},
		{of(1, nil, mailed(7), nil), false},
		{of(1, []int64{5}, mailed(7), nil), true},
		{of(2, []int64{5}, mailed(7), nil), false},
		{of(8, eight[:7], mailed(7), nil), false},
		{of(8, eight, mailed(7), nil), true},
		{of(8, eight, mailed(8, 7, 6, 5, 4, 3, 2, 1, 64), nil), true},
		{of(8, nine, mailed(7), nil), false},
		{of(0, []int64{5}, mailed(7), nil), false},
		// What is sent may be anything, the same too.
		{of(0, nil, mails{{7, least}, {3, greatest}, {9, 0}, {4, 0}}, nil), true},
		// Nobody waits to receive, if there is something.
		{of(0, nil, nil, []int{7}), true},
		{of(1, nil, nil, []int{7}), true},
		{of(8, nil, nil, []int{7, 3, 9}), true},
		{of(1, []int64{5}, nil, []int{7}), false},
		{of(2, []int64{5}, nil, []int{7}), false},
		{of(8, eight, nil, []int{7}), false},
		{of(0, nil, mailed(3), []int{7}), false},
		{of(1, []int64{5}, mailed(3), []int{7}), false},
		{of(0, nil, mailed(7), []int{7}), false},
		// Those who wait are above 0.
		{of(0, nil, mailed(1), nil), true},
		{of(0, nil, mailed(math.MaxInt, 1), nil), true},
		{of(0, nil, mailed(0), nil), false},
		{of(0, nil, mailed(-1), nil), false},
		{of(0, nil, mailed(7, 0), nil), false},
		{of(0, nil, mailed(0, 7), nil), false},
		{of(0, nil, mailed(7, math.MinInt, 3), nil), false},
		{of(1, nil, nil, []int{1}), true},
		{of(1, nil, nil, []int{1, math.MaxInt}), true},
		{of(1, nil, nil, []int{0}), false},
		{of(1, nil, nil, []int{-1}), false},
		{of(1, nil, nil, []int{7, 0}), false},
		{of(1, nil, nil, []int{0, 7}), false},
		{of(1, nil, nil, []int{7, math.MinInt, 3}), false},
		// Each once, whatever it sends.
		{of(0, nil, mailed(7, 7), nil), false},
		{of(0, nil, mails{{7, 5}, {7, 5}}, nil), false},
		{of(0, nil, mailed(7, 3, 7), nil), false},
		{of(0, nil, mailed(3, 7, 7), nil), false},
		{of(0, nil, mailed(math.MaxInt, 7, math.MaxInt), nil), false},
		{of(1, nil, nil, []int{7, 7}), false},
		{of(1, nil, nil, []int{7, 3, 7}), false},
		{of(1, nil, nil, []int{9, 3, 3}), false},
		{of(1, nil, nil, []int{-7, -7}), false},
	} {
		if ok := box.May(c.b); ok != c.want {
			t.Errorf("May(%v) is %t", c.b, ok)
		}
		asSaid(t, c.b, 7, 5)
	}
}

// P11.3: however many wait, each is held against all others.
func TestMayOfMany(t *testing.T) {
	var l []int
	for g := range 50000 {
		l = append(l, (g*37)%50000+1)
	}
	for _, c := range []struct {
		more int
		want bool
	}{{50001, true}, {math.MaxInt, true}, {l[0], false}, {l[25000], false}, {l[49999], false}, {0, false}, {-1, false}, {math.MinInt, false}} {
		for _, row := range [][]int{with(l, c.more), slices.Concat([]int{c.more}, l)} {
			if ok := box.May(of(3, nil, nil, row)); ok != c.want {
				t.Errorf("May, if %d waits to receive, too, is %t", c.more, ok)
			}
			if ok := box.May(of(0, nil, mailed(row...), nil)); ok != c.want {
				t.Errorf("May, if %d waits to send, too, is %t", c.more, ok)
			}
		}
	}
}

// P11.1 to P11.3, P1, R3: whatever there is, whoever waits, and whoever comes.
func TestAnything(t *testing.T) {
	boxes(3, []int{-1, 0, 1, 2, 3}, rows(2, -1, 0, 1, 2), func(b box.Box) {
		for g := -1; g <= 3; g++ {
			asSaid(t, b, g, 5)
		}
	})
	boxes(9, []int{0, 7, 8, 9}, rows(1, 1, 2), func(b box.Box) {
		asSaid(t, b, 1, least)
		asSaid(t, b, 3, greatest)
	})
	boxes(1, odd, rows(1, odd...), func(b box.Box) {
		asSaid(t, b, math.MinInt, 0)
		asSaid(t, b, math.MaxInt, 0)
	})
	for _, n := range sendable {
		for _, m := range sendable {
			for room := range 4 {
				asSaid(t, of(room, []int64{m}, nil, nil), 3, n)
				asSaid(t, of(room, []int64{m, n}, mails{{4, m}, {2, n}}, nil), 3, n)
				asSaid(t, of(room, nil, mails{{4, m}, {2, n}}, nil), 3, n)
			}
		}
	}
}

// R2: nil and empty are the same, whatever room is behind them.
func TestNilAndEmpty(t *testing.T) {
	msgs, send, recv := []int64{5, 6}, mailed(7, 3), []int{9, 4}
	for _, m := range [][]int64{nil, {}, make([]int64, 0, 4), msgs[:0]} {
		for _, s := range []mails{nil, {}, make(mails, 0, 4), send[:0]} {
			for _, r := range [][]int{nil, {}, make([]int, 0, 4), recv[:0]} {
				for _, room := range odd {
					b := of(room, m, s, r)
					if u, _, _ := sends(t, b, 1, 5); len(u.Msgs)+len(u.Send) != 1 {
						t.Errorf("Send(%v, 1, 5) is %v", b, u)
					}
					if u, _, _, ok := receives(t, b, 1); ok || !slices.Equal(u.Recv, []int{1}) {
						t.Errorf("Recv(%v, 1) is %v, %t", b, u, ok)
					}
					if ok := box.May(b); ok != (0 <= room && room <= 8) {
						t.Errorf("May(%v) is %t", b, ok)
					}
				}
			}
		}
	}
	if !slices.Equal(msgs, []int64{5, 6}) || !slices.Equal(send, mailed(7, 3)) || !slices.Equal(recv, []int{9, 4}) {
		t.Errorf("what stood behind is %v, %v, %v now", msgs, send, recv)
	}
}

// R3: of one mailbox several are told, and of each of these again: none of them
// is changed by what comes of the others.
func TestApart(t *testing.T) {
	for room := range 10 {
		var is, want []box.Box
		keep := func(b box.Box) box.Box {
			is, want = append(is, b), append(want, copied(b))
			return b
		}
		from := box.Box{Room: room}
		to := box.Box{Room: room}
		for g := 1; g <= 20; g++ {
			for _, b := range []box.Box{from, to} {
				u, _, _ := sends(t, b, 50, -1)
				v, _, _ := sends(t, b, 51, -2)
				w, _, _, _ := receives(t, b, 52)
				x, _, _, _ := receives(t, b, 53)
				for _, b := range []box.Box{u, v, w, x} {
					y, _, _ := sends(t, keep(b), 54, -3)
					z, _, _, _ := receives(t, b, 55)
					keep(y)
					keep(z)
				}
			}
			u, _, _ := sends(t, from, g, int64(g))
			v, _, _, _ := receives(t, to, g)
			from, to = keep(u), keep(v)
		}
		for k := range is {
			if !alike(is[k], want[k]) {
				t.Fatalf("%v is %v now", want[k], is[k])
			}
		}
	}
}

// P11.1, P11.2, P11.4: sent till there is no room, and on; and received till
// there is nothing, and on; and sent again, till nobody waits.
func TestThereAndBack(t *testing.T) {
	for room := range 10 {
		b := box.Box{Room: room}
		for k := range 20 {
			u, who, ok := box.Send(b, k+1, int64(100+k))
			if ok != (k < room) || who != 0 || len(u.Msgs) != min(k+1, room) || len(u.Send) != max(0, k+1-room) {
				t.Fatalf("Send(%v, %d, %d) is %v, %d, %t", b, k+1, 100+k, u, who, ok)
			}
			b = u
		}
		for k := range 20 {
			u, n, who, ok := box.Recv(b, 30)
			woken := room + k + 1
			if woken > 20 {
				woken = 0
			}
			if !ok || n != int64(100+k) || who != woken || len(u.Msgs)+len(u.Send) != 19-k {
				t.Fatalf("Recv(%v, 30) is %v, %d, %d, %t", b, u, n, who, ok)
			}
			b = u
		}
		for k := range 20 {
			u, n, who, ok := box.Recv(b, k+1)
			if ok || n != 0 || who != 0 || len(u.Recv) != k+1 {
				t.Fatalf("Recv(%v, %d) is %v, %d, %d, %t", b, k+1, u, n, who, ok)
			}
			b = u
		}
		for k := range 20 {
			u, who, ok := box.Send(b, 30, least)
			if !ok || who != k+1 || len(u.Recv) != 19-k || len(u.Msgs) != 0 {
				t.Fatalf("Send(%v, 30, least) is %v, %d, %t", b, u, who, ok)
			}
			b = u
		}
		if !alike(b, box.Box{Room: room}) {
			t.Fatalf("of the room %d, %v is left", room, b)
		}
	}
}

// P11.4: nothing is lost: what is sent is for the first one who waits to receive
// it, or stands behind all that is there; what is received is the first of that;
// and who waited still does, but who is told.
func TestNothingLost(t *testing.T) {
	boxes(3, []int{0, 1, 2, 3}, rows(3, 1, 2, 3), func(b box.Box) {
		all := inTurn(b)
		u, who, ok := box.Send(b, 4, 5)
		if len(b.Recv) > 0 {
			if !ok || who != b.Recv[0] || !slices.Equal(inTurn(u), all) || !slices.Equal(u.Recv, b.Recv[1:]) {
				t.Fatalf("Send(%v, 4, 5) is %v, %d, %t", b, u, who, ok)
			}
		} else if len(u.Recv) != 0 || who != 0 || box.May(b) && !slices.Equal(inTurn(u), with(all, 5)) {
			t.Fatalf("Send(%v, 4, 5) is %v, %d, %t", b, u, who, ok)
		}
		v, n, who, ok := box.Recv(b, 4)
		if len(all) > 0 {
			if !ok || n != all[0] || !slices.Equal(inTurn(v), all[1:]) || !slices.Equal(v.Recv, b.Recv) {
				t.Fatalf("Recv(%v, 4) is %v, %d, %d, %t", b, v, n, who, ok)
			}
		} else if ok || !slices.Equal(v.Recv, with(b.Recv, 4)) {
			t.Fatalf("Recv(%v, 4) is %v, %d, %d, %t", b, v, n, who, ok)
		}
		if len(b.Send) > 0 && (who != b.Send[0].G || !slices.Equal(v.Send, b.Send[1:])) {
			t.Fatalf("Recv(%v, 4) is %v, and wakes %d", b, v, who)
		}
	})
}

// P11.4: what may be still may be, if who comes doesn't wait already; and if it
// does, it still may be just if it doesn't wait once more.
func TestMayStays(t *testing.T) {
	seen := 0
	boxes(8, []int{0, 1, 2, 7, 8}, rows(3, 1, 2, 3, 4), func(b box.Box) {
		if !box.May(b) {
			return
		}
		seen++
		for g := 1; g <= 5; g++ {
			waits := slices.Contains(b.Recv, g) || slices.ContainsFunc(b.Send, func(m box.Mail) bool { return m.G == g })
			u, _, ok := box.Send(b, g, 5)
			if box.May(u) != (ok || !waits) {
				t.Fatalf("Send(%v, %d, 5) is %v, %t", b, g, u, ok)
			}
			v, _, _, ok := box.Recv(b, g)
			if box.May(v) != (ok || !waits) {
				t.Fatalf("Recv(%v, %d) is %v, %t", b, g, v, ok)
			}
		}
	})
	// Of each room as many as there may be Msgs while nobody waits, and as there
	// are rows of one to three of four, who wait to send, or to receive.
	if want := 1 + 2 + 3 + 8 + 9 + 5*2*(4+12+24); seen != want {
		t.Fatalf("%d mailboxes may be, not %d", seen, want)
	}
}

// P11.4: in long rows of calls the one that is received as the k-th is what was
// sent as the k-th, whoever waited for it; and who waits first is woken first.
func TestLong(t *testing.T) {
	next := chances()
	for room := range 9 {
		b := box.Box{Room: room}
		var sent []int64
		var senders, receivers []int
		for g := 1; g <= 5000; g++ {
			ahead := len(sent) - len(receivers)
			// Now more send, now more receive.
			if next()%10 < 3+g/500%2*4 {
				n := sendable[next()%len(sendable)] ^ int64(g)
				sent, senders = append(sent, n), append(senders, g)
				u, who, ok := box.Send(b, g, n)
				whose := 0
				if ahead < 0 {
					whose = receivers[len(sent)-1]
				}
				if who != whose || ok != (ahead < room) {
					t.Fatalf("Send(%v, %d, %d) is %v, %d, %t", b, g, n, u, who, ok)
				}
				b = u
			} else {
				receivers = append(receivers, g)
				u, n, who, ok := box.Recv(b, g)
				what, whose := int64(0), 0
				if ahead > 0 {
					what = sent[len(receivers)-1]
				}
				if ahead > room {
					whose = senders[len(receivers)+room-1]
				}
				if n != what || who != whose || ok != (ahead > 0) {
					t.Fatalf("Recv(%v, %d) is %v, %d, %d, %t", b, g, u, n, who, ok)
				}
				b = u
			}
			if !box.May(b) {
				t.Fatalf("%v may not be", b)
			}
		}
	}
}
