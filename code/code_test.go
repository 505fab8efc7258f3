package code_test

import (
	"math"
	"slices"
	"strings"
	"testing"

	"catafalque/api"
	"catafalque/code"
)

// checked holds Check against the document's word.
func checked(t *testing.T, progs [][]api.Ins, s code.Setup) {
	t.Helper()
	n, at, e := code.Check(progs, s)
	if wn, wat, we := fault(progs, s); n != wn || at != wat || e != we {
		t.Fatalf("Check(%v, %v) is %d, %d, %d, not %d, %d, %d", progs, s, n, at, e, wn, wat, we)
	}
}

// asRead holds Parse against the document's word, and prints what it tells.
func asRead(t *testing.T, s string) {
	t.Helper()
	prog, n, e := code.Parse(s)
	want, at, ok := ofText(s)
	if !ok {
		if e != api.ErrForm || n != at || len(prog) != 0 {
			t.Fatalf("Parse(%q) is %v, %d, %d, not the line %d", s, prog, n, e, at)
		}
		return
	}
	if e != api.OK || n != 0 || !slices.Equal(prog, want) {
		t.Fatalf("Parse(%q) is %v, %d, %d, not %v", s, prog, n, e, want)
	}
	if x := code.Text(prog); x != s {
		t.Fatalf("Text(%v) is %q, which was parsed of %q", prog, x, s)
	}
}

// asPrinted holds Text against the document's word, and parses what it tells.
func asPrinted(t *testing.T, prog []api.Ins) {
	t.Helper()
	want, nameless := "", -1
	for n, i := range prog {
		want += printed(i)
		if nameless < 0 && (i.Op < 1 || i.Op > 10) {
			nameless = n
		}
	}
	s := code.Text(prog)
	if s != want {
		t.Fatalf("Text(%v) is %q, not %q", prog, s, want)
	}
	l, n, e := code.Parse(s)
	if nameless >= 0 {
		if e != api.ErrForm || n != nameless || len(l) != 0 {
			t.Fatalf("Parse(%q) is %v, %d, %d, not the line %d", s, l, n, e, nameless)
		}
		return
	}
	if e != api.OK || n != 0 || !slices.Equal(l, prog) {
		t.Fatalf("Parse(%q) is %v, %d, %d, not %v", s, l, n, e, prog)
	}
}

// The document's example.
func TestExample(t *testing.T) {
	prog := shape(api.OpAdd, 3, api.OpExit, 0)
	s := code.Text(prog)
	if s != "add 3\nexit\n" {
		t.Errorf("Text is %q", s)
	}
	l, n, e := code.Parse(s)
	if !slices.Equal(l, prog) || n != 0 || e != api.OK {
		t.Errorf("Parse is %v, %d, %d", l, n, e)
	}
	if n, at, e := code.Check([][]api.Ins{prog}, code.Setup{}); n != 0 || at != 0 || e != api.OK {
		t.Errorf("Check is %d, %d, %d", n, at, e)
	}
}

// P7.2: the ten names, and none of another number.
func TestName(t *testing.T) {
	for op, want := range map[int]string{
		api.OpAdd: "add", api.OpYield: "yield", api.OpSpawn: "spawn", api.OpAcquire: "acquire", api.OpRelease: "release",
		api.OpSend: "send", api.OpRecv: "recv", api.OpSleep: "sleep", api.OpLoop: "loop", api.OpExit: "exit",
	} {
		if s := code.Name(op); s != want {
			t.Errorf("Name(%d) is %q, not %q", op, s, want)
		}
	}
	for _, op := range odd {
		if s := code.Name(op); (op < 1 || op > 10) && s != "" {
			t.Errorf("Name(%d) is %q", op, s)
		}
	}
	for op := -300; op <= 1300; op++ {
		if s := code.Name(op); (s != "") != (1 <= op && op <= 10) {
			t.Errorf("Name(%d) is %q", op, s)
		}
	}
}

// P7.2: the lines of programs.
func TestText(t *testing.T) {
	for _, c := range []struct {
		prog []api.Ins
		want string
	}{
		{nil, ""},
		{[]api.Ins{}, ""},
		{shape(api.OpExit, 0), "exit\n"},
		{shape(api.OpYield, 0), "yield\n"},
		{all(), "add -7\nyield\nspawn 1\nacquire 3\nrelease 0\nsend 2\nrecv 1\nsleep 12\nloop 4\nexit\n"},
		// An A of 0 is printed, but of two.
		{shape(1, 0, 2, 0, 3, 0, 4, 0, 5, 0), "add 0\nyield\nspawn 0\nacquire 0\nrelease 0\n"},
		{shape(6, 0, 7, 0, 8, 0, 9, 0, 10, 0), "send 0\nrecv 0\nsleep 0\nloop 0\nexit\n"},
		{shape(2, 1, 10, 1, 2, -1, 10, -20), "yield 1\nexit 1\nyield -1\nexit -20\n"},
		// Whatever A, also one that may not be.
		{shape(1, -1000, 1, 1000, 8, 1001), "add -1000\nadd 1000\nsleep 1001\n"},
		{shape(1, math.MaxInt, 9, math.MinInt), "add 9223372036854775807\nloop -9223372036854775808\n"},
		// Those without a name.
		{shape(0, 0), "? 0\n"},
		{shape(11, 5, -1, -5, 10, 0), "? 5\n? -5\nexit\n"},
		{shape(math.MinInt, math.MinInt, math.MaxInt, math.MaxInt), "? -9223372036854775808\n? 9223372036854775807\n"},
	} {
		if s := code.Text(c.prog); s != c.want {
			t.Errorf("Text(%v) is %q, not %q", c.prog, s, c.want)
		}
	}
}

// P7.2, P7.3: each instruction, and others, with each A, alone and among others.
func TestPrintedAndParsed(t *testing.T) {
	for op := -2; op <= 13; op++ {
		for _, a := range odd {
			asPrinted(t, shape(op, a))
			asPrinted(t, shape(api.OpExit, 0, op, a, api.OpAdd, 1))
		}
		for a := -1100; a <= 1100; a++ {
			asPrinted(t, shape(op, a))
		}
	}
	for _, op := range odd {
		for _, a := range odd {
			asPrinted(t, shape(api.OpYield, 0, op, a))
		}
	}
	for n := range 40 {
		asPrinted(t, slices.Repeat(shape(api.OpExit, 0), n))
		asPrinted(t, slices.Repeat(shape(api.OpAdd, n), n))
	}
	for _, prog := range many(40) {
		asPrinted(t, prog)
	}
	asPrinted(t, all())
	asPrinted(t, slices.Repeat(all(), 500))
}

// P7.2, P7.3: long programs of chance, now and then with one that has no name.
func TestPrintedAndParsedByChance(t *testing.T) {
	below := chance(7)
	for round := range 3000 {
		var prog []api.Ins
		for range below(40) {
			i := api.Ins{Op: 1 + below(10), A: below(2003) - 1001}
			if below(4) == 0 {
				i.A = odd[below(len(odd))]
			}
			if round%3 == 0 && below(30) == 0 {
				i.Op = odd[below(len(odd))]
			}
			prog = append(prog, i)
		}
		asPrinted(t, prog)
	}
}

// P7.2: the instructions of texts.
func TestParse(t *testing.T) {
	for _, c := range []struct {
		s    string
		want []api.Ins
	}{
		{"", nil},
		{"exit\n", shape(10, 0)},
		{"yield\nyield\n", shape(2, 0, 2, 0)},
		{"add 3\nexit\n", shape(1, 3, 10, 0)},
		{"add -7\nyield\nspawn 1\nacquire 3\nrelease 0\nsend 2\nrecv 1\nsleep 12\nloop 4\nexit\n", all()},
		{"add 0\nspawn 0\nacquire 0\nrelease 0\nsend 0\nrecv 0\nsleep 0\nloop 0\n", shape(1, 0, 3, 0, 4, 0, 5, 0, 6, 0, 7, 0, 8, 0, 9, 0)},
		// Text tells these, too; what may be is asked by Check alone.
		{"yield 1\nexit -1\nexit 10\n", shape(2, 1, 10, -1, 10, 10)},
		{"sleep -40\nspawn 99\nloop 100000\n", shape(8, -40, 3, 99, 9, 100000)},
		{"add 9223372036854775807\nadd -9223372036854775808\n", shape(1, math.MaxInt, 1, math.MinInt)},
		{"yield 9223372036854775807\nexit -9223372036854775808\n", shape(2, math.MaxInt, 10, math.MinInt)},
	} {
		prog, n, e := code.Parse(c.s)
		if !slices.Equal(prog, c.want) || n != 0 || e != api.OK {
			t.Errorf("Parse(%q) is %v, %d, %d", c.s, prog, n, e)
		}
		asRead(t, c.s)
	}
}

// P7.2: the line that is told of what is no text.
func TestParseFault(t *testing.T) {
	for _, c := range []struct {
		s    string
		want int
	}{
		// Names that are none.
		{"halt\n", 0}, {"halt 3\n", 0}, {"Add 3\n", 0}, {"EXIT\n", 0}, {"ad 3\n", 0}, {"addd 3\n", 0}, {"exi\n", 0}, {"exits\n", 0}, {"1 3\n", 0}, {"10\n", 0},
		{"?\n", 0}, {"? 0\n", 0}, {"? 3\n", 0}, {"exit\n? 3\n", 1}, {"\n", 0}, {" \n", 0}, {" 0\n", 0}, {" 3\n", 0}, {"0\n", 0}, {"\x00\n", 0},
		// No A, where there is one.
		{"add\n", 0}, {"spawn\n", 0}, {"acquire\n", 0}, {"release\n", 0}, {"send\n", 0}, {"recv\n", 0}, {"sleep\n", 0}, {"loop\n", 0},
		{"add \n", 0}, {"loop \n", 0}, {"yield \n", 0}, {"exit \n", 0}, {"add -\n", 0}, {"exit -\n", 0}, {"add3\n", 0}, {"exit0\n", 0},
		// A 0, where there is none.
		{"yield 0\n", 0}, {"exit 0\n", 0}, {"exit 00\n", 0}, {"exit -0\n", 0}, {"yield +0\n", 0}, {"add 1\nexit 0\n", 1},
		// Blanks.
		{"add  3\n", 0}, {" add 3\n", 0}, {"add 3 \n", 0}, {"exit  \n", 0}, {" exit\n", 0}, {"exit  3\n", 0}, {"add - 3\n", 0}, {"add 3 3\n", 0}, {"add\t3\n", 0}, {"add\u00a03\n", 0}, {"add\v3\n", 0},
		// No figures, or too many.
		{"add 03\n", 0}, {"add 00\n", 0}, {"add -03\n", 0}, {"add -0\n", 0}, {"add +3\n", 0}, {"add +0\n", 0}, {"add --3\n", 0}, {"add -+3\n", 0}, {"exit 01\n", 0}, {"exit +1\n", 0}, {"add 3-\n", 0},
		{"add 3.0\n", 0}, {"add 3e2\n", 0}, {"add 0x3\n", 0}, {"add 0b1\n", 0}, {"add 0o7\n", 0}, {"add 1_0\n", 0}, {"add 1,0\n", 0}, {"add x\n", 0}, {"add 3x\n", 0}, {"add x3\n", 0}, {"add ٣\n", 0}, {"add ３\n", 0}, {"add −3\n", 0},
		// An A that no int holds.
		{"add 9223372036854775808\n", 0}, {"add -9223372036854775809\n", 0}, {"add 18446744073709551616\n", 0}, {"add 18446744073709551619\n", 0}, {"exit 18446744073709551616\n", 0}, {"yield 9223372036854775808\n", 0},
		{"add 10000000000000000000000000000000000000000\n", 0}, {"add 09223372036854775807\n", 0}, {"add " + strings.Repeat("9", 5000) + "\n", 0},
		// Other bytes, ahead and behind.
		{"xadd 3\n", 0}, {"exitx\n", 0}, {"add 3\r\n", 0}, {"exit\r\n", 0}, {"\radd 3\n", 0}, {"exit\x00\n", 0}, {"add 3\x00\n", 0}, {"\ufeffexit\n", 0}, {"exit\xff\n", 0}, {"\xffexit\n", 0}, {"add 3;exit\n", 0}, {"add 3\rexit\n", 0}, {"exit\u2028\n", 0}, {"add 3 # three\n", 0},
		// What stands behind the last byte 10.
		{"exit", 0}, {"add 3", 0}, {" ", 0}, {"x", 0}, {"\r", 0}, {"exit\nexit", 1}, {"add 3\nexit", 1}, {"exit\n ", 1}, {"exit\nx", 1}, {"exit\n\x00", 1}, {"exit\n\r", 1}, {"exit\ne", 1}, {"add 1\nadd 2\nadd 3", 2},
		// A line of nothing.
		{"\nexit\n", 0}, {"exit\n\n", 1}, {"\n\n\n", 0}, {"exit\n\nexit\n", 1}, {"add 1\n\nx", 1},
		// The first one of several.
		{"x\nexit\ny\n", 0}, {"exit\nx\ny\n", 1}, {"exit\nexit\nadd\nadd +1\n", 2}, {"exit\nadd 1 \nexit", 1}, {"add 01\nexit", 0}, {"exit\nyield 0\n? 3\n", 1}, {strings.Repeat("exit\n", 70) + "x\nx", 70},
	} {
		if prog, n, e := code.Parse(c.s); len(prog) != 0 || n != c.want || e != api.ErrForm {
			t.Errorf("Parse(%q) is %v, %d, %d, not the line %d", c.s, prog, n, e, c.want)
		}
		asRead(t, c.s)
	}
}

// P7.2: all texts of a few pieces.
func TestParsePieces(t *testing.T) {
	pieces := []string{"add", "exit", "yield", "?", " ", "\n", "0", "7", "-", "+"}
	row := []string{""}
	for range 5 {
		var longer []string
		for _, s := range row {
			for _, piece := range pieces {
				longer = append(longer, s+piece)
				asRead(t, s+piece)
			}
		}
		row = longer
	}
}

// P7.2: one byte more, less, or another one, at each place of a text.
func TestParseBytes(t *testing.T) {
	s := code.Text(append(all(), shape(api.OpExit, 1, api.OpAdd, 100, api.OpYield, -10)...))
	asRead(t, s)
	for at := range len(s) {
		asRead(t, s[:at])
		asRead(t, s[at:])
		asRead(t, s[:at]+s[at+1:])
		for b := range 256 {
			asRead(t, s[:at]+string([]byte{byte(b)})+s[at:])
			asRead(t, s[:at]+string([]byte{byte(b)})+s[at+1:])
		}
	}
}

// P7.2: long texts, whole, and with a fault at their ends.
func TestParseLong(t *testing.T) {
	line := "add 123\n"
	for _, n := range []int{1, 32, 33, 1000, 100000} {
		s := strings.Repeat(line, n)
		if prog, at, e := code.Parse(s); len(prog) != n || at != 0 || e != api.OK || prog[n-1] != (api.Ins{Op: api.OpAdd, A: 123}) {
			t.Errorf("of %d lines: %d, %d, %d", n, len(prog), at, e)
		}
		if prog, at, e := code.Parse(s[:len(s)-1]); len(prog) != 0 || at != n-1 || e != api.ErrForm {
			t.Errorf("of %d lines without an end: %d, %d, %d", n, len(prog), at, e)
		}
		if prog, at, e := code.Parse(s + "add"); len(prog) != 0 || at != n || e != api.ErrForm {
			t.Errorf("of %d lines and more: %d, %d, %d", n, len(prog), at, e)
		}
	}
	if prog, at, e := code.Parse("add " + strings.Repeat("0", 1<<20)); len(prog) != 0 || at != 0 || e != api.ErrForm {
		t.Errorf("of a long line: %d, %d, %d", len(prog), at, e)
	}
}

// P7.1: programs that may be.
func TestCheck(t *testing.T) {
	for _, c := range []struct {
		progs [][]api.Ins
		s     code.Setup
	}{
		{many(1), code.Setup{}},
		{many(2), code.Setup{Sems: 4}},
		{many(8), code.Setup{Boxes: 4}},
		{[][]api.Ins{long(32)}, code.Setup{}},
		{slices.Repeat([][]api.Ins{long(32)}, 8), wide},
		{[][]api.Ins{all(), long(1)}, wide},
		{[][]api.Ins{all(), all(), all()}, wide},
		{[][]api.Ins{shape(10, 0, 10, 0)}, code.Setup{}},
		{[][]api.Ins{shape(9, 1, 10, 0)}, code.Setup{}},
		{[][]api.Ins{shape(3, 0, 10, 0)}, code.Setup{}},
		{[][]api.Ins{shape(1, -1000, 1, 1000, 8, 1, 8, 1000, 10, 0)}, code.Setup{}},
		{[][]api.Ins{shape(4, 0, 5, 0, 10, 0)}, code.Setup{Sems: 1}},
		{[][]api.Ins{shape(6, 0, 7, 0, 10, 0)}, code.Setup{Boxes: 1}},
	} {
		if n, at, e := code.Check(c.progs, c.s); n != 0 || at != 0 || e != api.OK {
			t.Errorf("Check(%v, %v) is %d, %d, %d", c.progs, c.s, n, at, e)
		}
		checked(t, c.progs, c.s)
	}
}

// P7.1: faults, and where they are told.
func TestCheckFault(t *testing.T) {
	fine := long(3)
	bad := with(fine, 1, api.Ins{Op: api.OpAdd, A: 1001})
	endless := with(fine, 2, api.Ins{Op: api.OpLoop, A: 0})
	for _, c := range []struct {
		name  string
		progs [][]api.Ins
		s     code.Setup
		n, at int
		want  api.Errno
	}{
		{"no program", nil, wide, 0, 0, api.ErrFull},
		{"no program, not nil", [][]api.Ins{}, wide, 0, 0, api.ErrFull},
		{"9 programs", many(9), wide, 0, 0, api.ErrFull},
		{"500 programs", many(500), wide, 0, 0, api.ErrFull},
		{"of no instruction", [][]api.Ins{nil}, wide, 0, 0, api.ErrFull},
		{"of no instruction, not nil", [][]api.Ins{fine, {}}, wide, 1, 0, api.ErrFull},
		{"of 33", [][]api.Ins{long(33)}, wide, 0, 0, api.ErrFull},
		{"of 33, the last one", append(many(7), long(33)), wide, 7, 0, api.ErrFull},
		{"an instruction", [][]api.Ins{fine, bad}, wide, 1, 1, api.ErrArg},
		{"no end", [][]api.Ins{fine, fine, endless}, wide, 2, 2, api.ErrForm},
		{"no end, of 1", [][]api.Ins{shape(1, 1)}, wide, 0, 0, api.ErrForm},
		{"an end too early", [][]api.Ins{shape(10, 0, 1, 1)}, wide, 0, 1, api.ErrForm},
		{"no end, of 32", [][]api.Ins{with(long(32), 31, api.Ins{Op: api.OpYield})}, wide, 0, 31, api.ErrForm},
		// Several faults at once: the setup, how many programs, and then program
		// by program how long, which instruction, and the end.
		{"Sems, and no program", nil, code.Setup{Sems: 5}, 0, 0, api.ErrArg},
		{"Boxes, and 9 programs", many(9), code.Setup{Boxes: -1}, 0, 0, api.ErrArg},
		{"Boxes, and an instruction", [][]api.Ins{fine, bad}, code.Setup{Boxes: 5}, 0, 0, api.ErrArg},
		{"Sems, and no end", [][]api.Ins{fine, endless}, code.Setup{Sems: -1}, 0, 0, api.ErrArg},
		{"Sems, and of 33", [][]api.Ins{fine, long(33)}, code.Setup{Sems: 5}, 0, 0, api.ErrArg},
		{"9 programs, and an instruction", slices.Repeat([][]api.Ins{bad}, 9), wide, 0, 0, api.ErrFull},
		{"9 programs, and no end", slices.Repeat([][]api.Ins{endless}, 9), wide, 0, 0, api.ErrFull},
		{"of 33, and an instruction", [][]api.Ins{with(long(33), 4, api.Ins{})}, wide, 0, 0, api.ErrFull},
		{"of 33, and no end", [][]api.Ins{fine, slices.Repeat(shape(1, 1), 33)}, wide, 1, 0, api.ErrFull},
		{"two instructions", [][]api.Ins{shape(1, 0, 8, 0, 2, 1, 10, 0)}, wide, 0, 1, api.ErrArg},
		{"an instruction, and no end", [][]api.Ins{with(endless, 1, api.Ins{Op: 11})}, wide, 0, 1, api.ErrArg},
		{"an end that may not be", [][]api.Ins{shape(1, 1, 10, 1)}, wide, 0, 1, api.ErrArg},
		{"a last one that may not be", [][]api.Ins{shape(1, 1, 11, 0)}, wide, 0, 1, api.ErrArg},
		{"no end, and then an instruction", [][]api.Ins{endless, bad}, wide, 0, 2, api.ErrForm},
		{"no end, and then of none", [][]api.Ins{fine, endless, nil}, wide, 1, 2, api.ErrForm},
		{"an instruction, and then of none", [][]api.Ins{bad, nil}, wide, 0, 1, api.ErrArg},
		{"of none, and then an instruction", [][]api.Ins{nil, bad, endless}, wide, 0, 0, api.ErrFull},
		{"of none, twice", [][]api.Ins{fine, nil, nil}, wide, 1, 0, api.ErrFull},
	} {
		if n, at, e := code.Check(c.progs, c.s); n != c.n || at != c.at || e != c.want {
			t.Errorf("%s: %d, %d, %d", c.name, n, at, e)
		}
		checked(t, c.progs, c.s)
	}
}

// P7.1: each Op with each A, of many setups, among few programs and many, in
// short ones and long ones, first and last.
func TestCheckInstructions(t *testing.T) {
	as := slices.Concat(odd, []int{-1001, -1000, -999, 6, 13, 30, 998, 500})
	for sems := range 5 {
		for _, progs := range []int{1, 2, 7, 8} {
			for _, own := range []int{1, 2, 10, 31, 32} {
				s := code.Setup{Sems: sems, Boxes: 4 - sems}
				row := slices.Repeat([][]api.Ins{long(own)}, progs)
				for op := -1; op <= 12; op++ {
					for _, a := range as {
						for _, at := range []int{0, own / 2, own - 1} {
							row[progs-1] = with(long(own), at, api.Ins{Op: op, A: a})
							checked(t, row, s)
						}
					}
				}
			}
		}
	}
	for _, op := range odd {
		for _, a := range odd {
			checked(t, [][]api.Ins{long(5), with(long(5), 3, api.Ins{Op: op, A: a})}, wide)
		}
	}
}

// P7.1: the ends of what each Op allows, and one beyond.
func TestCheckEnds(t *testing.T) {
	s := code.Setup{Sems: 2, Boxes: 3}
	for op, ends := range map[int][2]int{
		api.OpAdd: {-1000, 1000}, api.OpYield: {0, 0}, api.OpSpawn: {0, 5}, api.OpAcquire: {0, 1}, api.OpRelease: {0, 1},
		api.OpSend: {0, 2}, api.OpRecv: {0, 2}, api.OpSleep: {1, 1000}, api.OpLoop: {0, 8}, api.OpExit: {0, 0},
	} {
		progs := many(6)
		for a := ends[0] - 1; a <= ends[1]+1; a++ {
			progs[4] = with(long(9), 6, api.Ins{Op: op, A: a})
			n, at, e := code.Check(progs, s)
			if a < ends[0] || a > ends[1] {
				if n != 4 || at != 6 || e != api.ErrArg {
					t.Errorf("%s %d: %d, %d, %d", code.Name(op), a, n, at, e)
				}
			} else if n != 0 || at != 0 || e != api.OK {
				t.Errorf("%s %d: %d, %d, %d", code.Name(op), a, n, at, e)
			}
		}
	}
}

// P7.1: as many semaphores and mailboxes as there may be, and others.
func TestCheckSetup(t *testing.T) {
	for _, sems := range odd {
		for _, boxes := range odd {
			s := code.Setup{Sems: sems, Boxes: boxes}
			want := api.ErrArg
			if 0 <= sems && sems <= 4 && 0 <= boxes && boxes <= 4 {
				want = api.OK
			}
			if n, at, e := code.Check(many(3), s); n != 0 || at != 0 || e != want {
				t.Errorf("Check of %v: %d, %d, %d", s, n, at, e)
			}
			for _, progs := range [][][]api.Ins{nil, many(9), {all(), long(33)}, {long(2), nil}} {
				checked(t, progs, s)
			}
		}
	}
}

// P7.1: how many programs, and how long.
func TestCheckHowMany(t *testing.T) {
	for n := range 20 {
		checked(t, many(n), wide)
		for own := range 70 {
			checked(t, slices.Repeat([][]api.Ins{slices.Repeat(shape(10, 0), own)}, n), wide)
		}
	}
}

// P7.1: programs of chance, most of which nearly may be.
func TestCheckByChance(t *testing.T) {
	below := chance(11)
	told := map[api.Errno]int{}
	for range 60000 {
		s := code.Setup{Sems: below(5), Boxes: below(5)}
		progs := make([][]api.Ins, 1+below(8))
		for n := range progs {
			prog := long(1 + below(32))
			for at := range prog[:len(prog)-1] {
				op := 1 + below(10)
				if from, to := bounds(op, s, len(progs), len(prog)); from <= to {
					prog[at] = api.Ins{Op: op, A: from + below(to-from+1)}
				}
			}
			switch below(40) {
			case 0:
				prog[below(len(prog))].A = odd[below(len(odd))]
			case 1:
				prog[below(len(prog))].Op = odd[below(len(odd))]
			case 2:
				prog = prog[:below(len(prog))]
			case 3:
				prog = slices.Concat(prog, prog)
			}
			progs[n] = prog
		}
		checked(t, progs, s)
		_, _, e := code.Check(progs, s)
		told[e]++
	}
	for _, e := range []api.Errno{api.OK, api.ErrArg, api.ErrForm, api.ErrFull} {
		if told[e] < 500 {
			t.Errorf("%d came %d times alone", e, told[e])
		}
	}
}

// P7.1, P7.3: several programs that may be are printed, and parsed again, and
// are told the same then.
func TestCheckOfParsed(t *testing.T) {
	for _, progs := range [][][]api.Ins{{all(), all()}, many(8), {all(), shape(8, 0, 10, 0)}, {long(4), shape(2, 0)}, {long(33)}, {long(2), nil}} {
		var again [][]api.Ins
		for _, prog := range progs {
			l, n, e := code.Parse(code.Text(prog))
			if n != 0 || e != api.OK {
				t.Fatalf("%v: %d, %d", prog, n, e)
			}
			again = append(again, l)
		}
		if !same(again, progs) {
			t.Fatalf("%v, not %v", again, progs)
		}
		checked(t, again, wide)
	}
}

// R3: what is handed in to Check and Text stays as it was, behind its end, too.
func TestHandedInStays(t *testing.T) {
	for _, progs := range [][][]api.Ins{{all(), all()}, many(8), many(9), {shape(0, 0, 99, -9), nil}, {long(33)}, {shape(1, 2000, 3, 1)}} {
		room := append(copied(progs), shape(7, 7))
		for n := range progs {
			room[n] = append(room[n], shape(9, 9, 8, 8)...)[:len(room[n])]
		}
		had := copied(room)
		texts := make([]string, len(progs))
		for n, prog := range room[:len(progs)] {
			texts[n] = code.Text(prog)
		}
		code.Check(room[:len(progs)], wide)
		code.Check(room[:len(progs)], code.Setup{})
		if !same(room, had) {
			t.Fatalf("%v was made %v", had, room)
		}
		for n, prog := range room[:len(progs)] {
			if end := prog[len(prog) : len(prog)+2]; !slices.Equal(end, shape(9, 9, 8, 8)) {
				t.Fatalf("behind %v stands %v", prog, end)
			}
			// Nor is it kept: written over, it changes no text that was told.
			was := code.Text(slices.Clone(prog))
			clear(prog)
			if texts[n] != was {
				t.Fatalf("%q was made %q", was, texts[n])
			}
		}
	}
}

// R3, R4: what Parse told is nobody's but the caller's.
func TestParseIsNew(t *testing.T) {
	s := code.Text(all())
	a, _, _ := code.Parse(s)
	b, _, _ := code.Parse(s)
	a = a[:cap(a)]
	for k := range a {
		a[k] = api.Ins{Op: -1, A: -1}
	}
	if !slices.Equal(b, all()) {
		t.Errorf("written over: %v", b)
	}
	if c, n, e := code.Parse(s); !slices.Equal(c, all()) || n != 0 || e != api.OK {
		t.Errorf("Parse is %v, %d, %d", c, n, e)
	}
}

// R4: a call tells the same, whatever was called in between.
func TestNothingIsKept(t *testing.T) {
	for range 3 {
		checked(t, [][]api.Ins{all(), long(2)}, wide)
		checked(t, [][]api.Ins{all(), long(2)}, code.Setup{})
		asRead(t, "add 3\nexit\n")
		asRead(t, "add 3\nexit")
		asPrinted(t, all())
		asPrinted(t, shape(11, 3, 10, 0))
		checked(t, nil, code.Setup{Sems: 9})
		asRead(t, "")
		if code.Name(api.OpRecv) != "recv" || code.Name(0) != "" {
			t.Fatalf("Name is %q, %q", code.Name(api.OpRecv), code.Name(0))
		}
	}
}
