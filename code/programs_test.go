package code_test

import (
	"math"
	"math/big"
	"regexp"
	"slices"
	"strings"

	"catafalque/api"
	"catafalque/code"
)

// ten are the instructions' names, in the turn of their numbers, from 1 on.
var ten = strings.Fields("add yield spawn acquire release send recv sleep loop exit")

// odd are numbers that are out of every bound, or beside one. Cut down to 8, 16
// or 32 bits, or to what an instruction's number has, many of them would be one.
var odd = []int{
	math.MinInt, math.MinInt + 1, math.MinInt + 10, -1 << 32, -1<<32 + 3, -65536, -1001, -1000, -256, -246, -33, -32, -11, -10, -9, -8, -5, -4, -3, -2, -1,
	0, 1, 2, 3, 4, 5, 7, 8, 9, 10, 11, 12, 16, 17, 26, 31, 32, 33, 63, 64, 127, 128, 138, 255, 256, 257, 266, 999, 1000, 1001, 1002, 65536, 65546, 1 << 31, 1 << 32, 1<<32 + 10, math.MaxInt - 1, math.MaxInt,
}

// wide is a setup with all semaphores and mailboxes.
var wide = code.Setup{Sems: 4, Boxes: 4}

// bounds are what the A of an instruction may be: from the first one to the
// second one. Where there is none the second one is below the first one.
func bounds(op int, s code.Setup, progs, own int) (int, int) {
	switch op {
	case api.OpAdd:
		return -1000, 1000
	case api.OpYield, api.OpExit:
		return 0, 0
	case api.OpSpawn:
		return 0, progs - 1
	case api.OpAcquire, api.OpRelease:
		return 0, s.Sems - 1
	case api.OpSend, api.OpRecv:
		return 0, s.Boxes - 1
	case api.OpSleep:
		return 1, 1000
	case api.OpLoop:
		return 0, own - 1
	}
	return 1, 0
}

// fault is the document's word of programs: the first one with a fault, the
// place of that, and which it is.
func fault(progs [][]api.Ins, s code.Setup) (int, int, api.Errno) {
	few := []int{0, 1, 2, 3, 4}
	if !slices.Contains(few, s.Sems) || !slices.Contains(few, s.Boxes) {
		return 0, 0, api.ErrArg
	}
	if n := len(progs); n < 1 || n > 8 {
		return 0, 0, api.ErrFull
	}
	for n, prog := range progs {
		own := len(prog)
		if own < 1 || own > 32 {
			return n, 0, api.ErrFull
		}
		at := slices.IndexFunc(prog, func(i api.Ins) bool {
			from, to := bounds(i.Op, s, len(progs), own)
			return i.A < from || i.A > to
		})
		if at >= 0 {
			return n, at, api.ErrArg
		}
		if prog[own-1].Op != api.OpExit {
			return n, own - 1, api.ErrForm
		}
	}
	return 0, 0, api.OK
}

// aLine is a line of an instruction that has a name, but for an A that no int
// holds; bare is one that has no A to be printed.
var (
	aLine = regexp.MustCompile(`^(add|spawn|acquire|release|send|recv|sleep|loop) (0|-?[1-9][0-9]*)$|^(yield|exit)( -?[1-9][0-9]*)?$`)
	least = big.NewInt(math.MinInt)
	most  = big.NewInt(math.MaxInt)
)

// ofLine is the document's word of a line: its instruction, and whether there
// is one.
func ofLine(l string) (api.Ins, bool) {
	if !aLine.MatchString(l) {
		return api.Ins{}, false
	}
	words := strings.Split(l, " ")
	op := slices.Index(ten, words[0]) + 1
	if len(words) == 1 {
		return api.Ins{Op: op}, true
	}
	a, _ := new(big.Int).SetString(words[1], 10)
	if a.Cmp(least) < 0 || a.Cmp(most) > 0 {
		return api.Ins{}, false
	}
	return api.Ins{Op: op, A: int(a.Int64())}, true
}

// ofText is the document's word of a text: its program; else the number of the
// first line that is none, and false.
func ofText(s string) ([]api.Ins, int, bool) {
	lines := strings.Split(s, "\n")
	last := len(lines) - 1
	var prog []api.Ins
	for n, l := range lines[:last] {
		i, ok := ofLine(l)
		if !ok {
			return nil, n, false
		}
		prog = append(prog, i)
	}
	if lines[last] != "" {
		return nil, last, false
	}
	return prog, 0, true
}

// printed is the document's word of an instruction's line, with its end.
func printed(i api.Ins) string {
	figures := " " + big.NewInt(int64(i.A)).String() + "\n"
	if i.Op < 1 || i.Op > 10 {
		return "?" + figures
	}
	if i.A == 0 && (i.Op == api.OpYield || i.Op == api.OpExit) {
		figures = "\n"
	}
	return ten[i.Op-1] + figures
}

// shape is a program in short: pairs of an Op and an A, in turn.
func shape(l ...int) []api.Ins {
	var prog []api.Ins
	for pair := range slices.Chunk(l, 2) {
		prog = append(prog, api.Ins{Op: pair[0], A: pair[1]})
	}
	return prog
}

// long is a program of n instructions that may be, the last of which ends.
func long(n int) []api.Ins {
	prog := slices.Repeat(shape(api.OpAdd, 1), n)
	prog[n-1] = api.Ins{Op: api.OpExit}
	return prog
}

// many are n programs that may be.
func many(n int) [][]api.Ins {
	var l [][]api.Ins
	for k := range n {
		l = append(l, long(k+1))
	}
	return l
}

// with is a copy with another instruction at a place.
func with(prog []api.Ins, at int, i api.Ins) []api.Ins {
	prog = slices.Clone(prog)
	prog[at] = i
	return prog
}

// all are of each instruction one, that may be where setup is wide and there
// are programs enough.
func all() []api.Ins {
	return shape(
		api.OpAdd, -7, api.OpYield, 0, api.OpSpawn, 1, api.OpAcquire, 3, api.OpRelease, 0,
		api.OpSend, 2, api.OpRecv, 1, api.OpSleep, 12, api.OpLoop, 4, api.OpExit, 0,
	)
}

// copied is a copy that shares nothing.
func copied(progs [][]api.Ins) [][]api.Ins {
	var l [][]api.Ins
	for _, prog := range progs {
		l = append(l, slices.Clone(prog))
	}
	return l
}

// same tells whether programs are alike.
func same(a, b [][]api.Ins) bool {
	return slices.EqualFunc(a, b, slices.Equal[[]api.Ins])
}

// chance tells numbers of a row that is far from regular, and always the same:
// each time one from 0 to below n.
func chance(x uint32) func(n int) int {
	return func(n int) int {
		x = x*1664525 + 1013904223
		return int(x>>8) % n
	}
}
