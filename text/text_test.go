package text_test

import (
	"math"
	"slices"
	"strings"
	"testing"

	"catafalque/api"
	"catafalque/text"
	"catafalque/topo"
)

// asCounted holds Parse against the document's word, and what it tells against
// Text and Same.
func asCounted(t *testing.T, s string) {
	t.Helper()
	x, at, e := text.Parse(s)
	if whole.MatchString(s) && may(s) {
		if e != api.OK || at != 0 || !slices.Equal(x, parsed(s)) {
			t.Fatalf("Parse(%q) is %v, %d, %d", s, x, at, e)
		}
		asTree(t, x)
		return
	}
	if want := fault(s); e != api.ErrForm || at != want || len(x) != 0 {
		t.Fatalf("Parse(%q) is %v, %d, %d, not the place %d", s, x, at, e, want)
	}
}

// asTree holds Text and Same against the document's words.
func asTree(t *testing.T, x []api.Vertex) {
	t.Helper()
	s, e := text.Text(x)
	same := text.Same(x)
	if want := topo.Check(x); want != api.OK {
		if s != "" || e != want || len(same) != 0 {
			t.Fatalf("of %v, that may not be: %q, %d, %v", x, s, e, same)
		}
		return
	}
	if want := deep(x); s != want || e != api.OK {
		t.Fatalf("Text(%v) is %q, %d, not %q", x, s, e, want)
	}
	if want := parsed(s); !slices.Equal(same, want) {
		t.Fatalf("Same(%v) is %v, not %v", x, same, want)
	}
}

// P3.1: texts of trees, vertex by vertex.
func TestParse(t *testing.T) {
	for _, k := range []struct {
		s               string
		parents, levels []int
	}{
		{"m(n(c(p)))", []int{-1, 0, 1, 2}, []int{0, 1, 2, 3}},
		{"m(n(c(pp)))", []int{-1, 0, 1, 2, 2}, []int{0, 1, 2, 3, 3}},
		{"m(n(c(p)c(p)))", []int{-1, 0, 1, 2, 1, 4}, []int{0, 1, 2, 3, 2, 3}},
		{"m(n(c(p))n(c(p)))", []int{-1, 0, 1, 2, 0, 4, 5}, []int{0, 1, 2, 3, 1, 2, 3}},
		{"m(n(c(pp)c(p))n(c(ppp)))", []int{-1, 0, 1, 2, 2, 1, 5, 0, 7, 8, 8, 8}, []int{0, 1, 2, 3, 3, 2, 3, 1, 2, 3, 3, 3}},
		{"m(n(c(p))n(c(p)c(pp))n(c(p)))", []int{-1, 0, 1, 2, 0, 4, 5, 4, 7, 7, 0, 10, 11}, []int{0, 1, 2, 3, 1, 2, 3, 2, 3, 3, 1, 2, 3}},
	} {
		x, at, e := text.Parse(k.s)
		if at != 0 || e != api.OK || len(x) != len(k.parents) {
			t.Errorf("Parse(%q) is %v, %d, %d", k.s, x, at, e)
			continue
		}
		for v := range x {
			if x[v].Parent != k.parents[v] || x[v].Level != k.levels[v] {
				t.Errorf("Parse(%q): %d is %v", k.s, v, x[v])
			}
		}
	}
}

// P3.1: the place that is told of what is no text.
func TestParseFault(t *testing.T) {
	for _, k := range []struct {
		s    string
		want int
	}{
		// What ends too early.
		{"", 0},
		{"m", 1},
		{"m(", 2},
		{"m(n", 3},
		{"m(n(c(", 6},
		{"m(n(c(p", 7},
		{"m(n(c(p)", 8},
		{"m(n(c(p))", 9},
		{"m(n(c(p))n", 10},
		{"m(n(c(p))n(c(p))", 16},
		// What has nobody below it.
		{"m()", 2},
		{"m(n())", 4},
		{"m(n(c()))", 6},
		{"m(n(c(p)c()))", 10},
		{"m(n(c(p))n())", 11},
		// Letters that stand elsewhere, or don't open.
		{"n(c(p))", 0},
		{"p", 0},
		{"(", 0},
		{")", 0},
		{"mm", 1},
		{"m)", 1},
		{"mn(c(p))", 1},
		{"m(m(n(c(p))))", 2},
		{"m(c(p))", 2},
		{"m(p)", 2},
		{"m((", 2},
		{"m(nc(p))", 3},
		{"m(n(n(c(p))))", 4},
		{"m(n(p))", 4},
		{"m(n(c(c(p))))", 6},
		{"m(n(c(p(p))))", 7},
		{"m(n(c(p()))", 7},
		{"m(n(c(pc(p))))", 7},
		{"m(n(c(pm", 7},
		{"m(n(c(p)p))", 8},
		{"m(n(c(p)n(c(p))))", 8},
		{"m(n(c(p)(", 8},
		{"m(n(c(p))c(p))", 9},
		{"m(n(c(p))m", 9},
		// What stands behind the whole text.
		{"m(n(c(p))))", 10},
		{"m(n(c(p)))m(n(c(p)))", 10},
		{"m(n(c(p)))n(c(p))", 10},
		{"m(n(c(p)))(", 10},
		{"m(n(c(p))) ", 10},
		{"m(n(c(p)))\n", 10},
		{"m(n(c(p)))\x00", 10},
		{"m(n(c(p)))\xff", 10},
		// Bytes that are none of the letters.
		{" m(n(c(p)))", 0},
		{"\x00", 0},
		{"\x00m(n(c(p)))", 0},
		{"M(N(C(P)))", 0},
		{"m(n(c(P)))", 6},
		{"m(n(c(p,p)))", 7},
		{"m (n(c(p)))", 1},
		{"m[n(c(p))]", 1},
		{"m(n(c(p\x00)))", 7},
		// Runes of several bytes, and bytes that are no UTF-8.
		{"é", 0},
		{"m(n(c(pé)))", 7},
		{"m(n(c(\u00f0)))", 6},
		{"m(n(c(\U0001d55a)))", 6},
		{"m\ufffd", 1},
		{"\xff", 0},
		{"m(\x80n(c(p)))", 2},
		{"m(n(c(p\xc3", 7},
		{"m(n(c(p\xf0p)))", 7},
		{"m(n(c(\xe2\x82", 6},
		// A rune whose lowest byte is a letter's, or a bracket's.
		{"\u016d(n(c(p)))", 0},
		{"m(n(c(p\u0129)))", 7},
	} {
		x, at, e := text.Parse(k.s)
		if len(x) != 0 || at != k.want || e != api.ErrForm {
			t.Errorf("Parse(%q) is %v, %d, %d, not the place %d", k.s, x, at, e, k.want)
		}
		asCounted(t, k.s)
	}
}

// P3.1: the most vertices, processors, and others below one, and one more.
func TestParseBounds(t *testing.T) {
	for name, x := range fair() {
		s := deep(x)
		if y, at, e := text.Parse(s); !slices.Equal(y, parsed(s)) || at != 0 || e != api.OK {
			t.Errorf("%s: %v, %d, %d", name, y, at, e)
		}
	}
	for name, x := range foul() {
		s := deep(x)
		inner := s[:len(s)-3] // all but the last three )
		for _, k := range []struct {
			s    string
			want int
		}{
			{s, len(s)},
			{inner, len(inner)},
			// A place that is wrong is told, whatever there is too much of ahead.
			{s + "x", len(s)},
			{s + ")", len(s)},
			{s + "m(n(c(p)))", len(s)},
			{inner + "n)))", len(inner)},
			{inner + ")))x", len(s)},
			{inner + ")p))", len(inner) + 1},
			{inner + ")c()))", len(inner) + 3},
		} {
			if y, at, e := text.Parse(k.s); len(y) != 0 || at != k.want || e != api.ErrForm {
				t.Errorf("%s: Parse(%q) is %v, %d, %d, not the place %d", name, k.s, y, at, e, k.want)
			}
		}
	}
}

// P3.1: so many nodes, of so many cores, of so many processors each.
func TestParseCounts(t *testing.T) {
	for a := range 10 {
		for b := range 10 {
			for c := range 10 {
				core := "c(" + strings.Repeat("p", c) + ")"
				node := "n(" + strings.Repeat(core, b) + ")"
				asCounted(t, "m("+strings.Repeat(node, a)+")")
			}
		}
	}
}

// P3.1: all short texts, and all that such a text, or the least one, goes on
// with.
func TestParseAnything(t *testing.T) {
	alphabet := []string{"m", "n", "c", "p", "(", ")", "\xff"}
	var goOn func(s string, more int)
	goOn = func(s string, more int) {
		asCounted(t, s)
		if more == 0 {
			return
		}
		for _, r := range alphabet {
			goOn(s+r, more-1)
		}
	}
	goOn("", 5)
	for k := range len(least) + 1 {
		goOn(least[:k], 4)
	}
}

// P3.1: each byte, and each rune of some, behind whatever a text begins with.
func TestParseEachByte(t *testing.T) {
	const s = "m(n(c(pp)c(p))n(c(p)))"
	for k := range len(s) + 1 {
		for b := range 256 {
			asCounted(t, s[:k]+string([]byte{byte(b)}))
			asCounted(t, s[:k]+string([]byte{byte(b)})+s[k:])
		}
		for r := rune(128); r < 1024; r++ {
			asCounted(t, s[:k]+string(r))
		}
	}
}

// P3.1: each rune of a text left out, turned to another one, or put in ahead.
func TestParseOneRuneElse(t *testing.T) {
	for _, x := range fair() {
		s := deep(x)
		for at := range len(s) + 1 {
			asCounted(t, s[:at])
			for _, r := range []string{"m", "n", "c", "p", "(", ")", "é", "\xff", "\x00", "?"} {
				asCounted(t, s[:at]+r+s[at:])
				if at < len(s) {
					asCounted(t, s[:at]+r+s[at+1:])
				}
			}
			if at < len(s) {
				asCounted(t, s[:at]+s[at+1:])
			}
		}
	}
}

// P3.1: a long text, and one that is deeply open, end too.
func TestParseLong(t *testing.T) {
	const n = 1 << 20
	for _, k := range []struct {
		s    string
		want int
	}{
		{"m(n(c(" + strings.Repeat("p", n) + ")))", n + 9},
		{"m(n(c(" + strings.Repeat("p", n), n + 6},
		{"m(n(c(" + strings.Repeat("p", n) + "x", n + 6},
		{"m(" + strings.Repeat("n(c(p))", n) + ")", 7*n + 3},
		{strings.Repeat("(", n), 0},
		{strings.Repeat("m(", n), 2},
		{"m(n(c(p)" + strings.Repeat(")", n), 10},
		{strings.Repeat("\xff", n), 0},
	} {
		if x, at, e := text.Parse(k.s); len(x) != 0 || at != k.want || e != api.ErrForm {
			t.Errorf("Parse of %q ..: %v, %d, %d, not %d", k.s[:9], x, at, e, k.want)
		}
	}
}

// P3.2: the texts of trees, whatever the turn of their vertices.
func TestText(t *testing.T) {
	for _, k := range []struct {
		x    []api.Vertex
		want string
	}{
		{tree([]int{1}), "m(n(c(p)))"},
		{tree([]int{2}), "m(n(c(pp)))"},
		{tree([]int{2}, []int{2}), "m(n(c(pp))n(c(pp)))"},
		{tree([]int{2, 1}, []int{1}), "m(n(c(pp)c(p))n(c(p)))"},
		{wide(tree([]int{2, 1}, []int{1})), "m(n(c(pp)c(p))n(c(p)))"},
		{wide(tree([]int{1}, []int{3, 1})), "m(n(c(p))n(c(ppp)c(p)))"},
		{mixed(), "m(n(c(p)c(pp))n(c(pp)c(p)))"},
		{tree([]int{8}), "m(n(c(pppppppp)))"},
		{tree(rows(4, 8)...), "m(" + strings.Repeat("n(c(pppppppp))", 4) + ")"},
		{full(), "m(" + strings.Repeat("n(c(pp)c(p)c(p)c(p))", 2) + "n(c(pp)c(pp)c(p)c(p))" + strings.Repeat("n(c(pp)c(p)c(p))", 4) + ")"},
	} {
		if s, e := text.Text(k.x); s != k.want || e != api.OK {
			t.Errorf("Text(%v) is %q, %d, not %q", k.x, s, e, k.want)
		}
	}
}

// P3.2: a tree that may be, numbered as it is parsed.
func TestSame(t *testing.T) {
	for _, x := range [][]api.Vertex{tree([]int{1}), tree([]int{2, 1}, []int{2}), tree([]int{1, 3}, []int{2}, []int{1, 1, 4}), full()} {
		for _, y := range [][]api.Vertex{x, wide(x)} {
			if z := text.Same(y); !slices.Equal(z, x) {
				t.Errorf("Same(%v) is %v, not %v", y, z, x)
			}
		}
	}
	if z, want := text.Same(mixed()), tree([]int{1, 2}, []int{2, 1}); !slices.Equal(z, want) {
		t.Errorf("Same of mixed is %v, not %v", z, want)
	}
}

// P3.2: of trees that may not be the error is told, and nothing else.
func TestTextFoul(t *testing.T) {
	two := tree([]int{2}, []int{2}) // 0 m, 1 n, 2 c, 3 p, 4 p, 5 n, 6 c, 7 p, 8 p
	all := foul()
	for name, x := range map[string][]api.Vertex{
		"nil":                    nil,
		"empty":                  {},
		"a machine alone":        two[:1],
		"a node without a core":  two[:2],
		"a core without any":     two[:3],
		"no machine":             {{Parent: -1, Level: api.Node}, {Parent: 0, Level: api.Core}, {Parent: 1, Level: api.Proc}},
		"a processor alone":      {{Parent: -1, Level: api.Proc}},
		"one node of two empty":  tree([]int{1}, nil),
		"the first has a Parent": with(two, 0, api.Vertex{Parent: 0}),
		"its own Parent":         with(two, 6, api.Vertex{Parent: 6, Level: api.Core}),
		"a Parent behind":        with(two, 3, api.Vertex{Parent: 6, Level: api.Proc}),
		"a Parent that is none":  with(two, 8, api.Vertex{Parent: 9, Level: api.Proc}),
		"a Level left out":       with(two, 8, api.Vertex{Parent: 5, Level: api.Proc}),
		"a Level above all":      with(two, 8, api.Vertex{Parent: 6, Level: 4}),
		"a Level below all":      with(two, 0, api.Vertex{Parent: -1, Level: -1}),
		"one below a processor":  append(slices.Clone(two), api.Vertex{Parent: 8, Level: 4}),
		"Levels round the bound": append(slices.Clone(two), api.Vertex{Parent: 8, Level: math.MaxInt}, api.Vertex{Parent: 9, Level: math.MinInt}),
	} {
		all[name] = x
	}
	for name, x := range all {
		if s, e := text.Text(x); s != "" || e != api.ErrForm {
			t.Errorf("%s: %q, %d", name, s, e)
		}
		if y := text.Same(x); len(y) != 0 {
			t.Errorf("%s: %v", name, y)
		}
	}
}

// P3.2, P1: each vertex cut off, or hung elsewhere, or of any Level.
func TestOneVertexElsewhere(t *testing.T) {
	odd := []int{math.MinInt, math.MinInt + 1, -2, -1, 4, 5, 63, 64, math.MaxInt - 1, math.MaxInt}
	for _, x := range fair() {
		asTree(t, x)
		for v := range x {
			asTree(t, x[:v])
			for parent := range len(x) + 1 {
				asTree(t, with(x, v, api.Vertex{Parent: parent, Level: x[v].Level}))
			}
			for level := -1; level <= api.Proc+1; level++ {
				asTree(t, with(x, v, api.Vertex{Parent: x[v].Parent, Level: level}))
			}
			for _, n := range odd {
				asTree(t, with(x, v, api.Vertex{Parent: n, Level: x[v].Level}))
				asTree(t, with(x, v, api.Vertex{Parent: x[v].Parent, Level: n}))
				asTree(t, with(x, v, api.Vertex{Parent: n, Level: n}))
			}
		}
	}
}

// P3.3: there and back.
func TestThereAndBack(t *testing.T) {
	for name, x := range fair() {
		s, e := text.Text(x)
		y, at, f := text.Parse(s)
		if e != api.OK || f != api.OK || at != 0 || topo.Check(y) != api.OK {
			t.Errorf("%s: %d, and of its text %d, %d", name, e, at, f)
			continue
		}
		if again, g := text.Text(y); again != s || g != api.OK {
			t.Errorf("%s: %q, and again %q, %d", name, s, again, g)
		}
		if z := text.Same(y); !slices.Equal(z, y) || !slices.Equal(text.Same(x), y) {
			t.Errorf("%s: what is parsed is numbered %v, and again %v", name, y, z)
		}
		if len(y) != len(x) || len(topo.Procs(y)) != len(topo.Procs(x)) || len(topo.Nodes(y)) != len(topo.Nodes(x)) {
			t.Errorf("%s: %v is parsed to %v", name, x, y)
		}
	}
}

// R3, R4: nothing is changed, nothing shared, and nothing kept.
func TestNothingShared(t *testing.T) {
	x := tree([]int{2, 1}, []int{2})
	keep := slices.Clone(x)
	s, _ := text.Text(x)
	for name, ask := range map[string]func() []api.Vertex{
		"Same": func() []api.Vertex { return text.Same(x) },
		"Parse": func() []api.Vertex {
			y, _, _ := text.Parse(s)
			return y
		},
	} {
		one := ask()
		for v := range one {
			one[v] = api.Vertex{Parent: -9, Level: -9}
		}
		text.Parse("m(n(c(ppp")
		if two := ask(); !slices.Equal(two, keep) {
			t.Errorf("%s: %v, not %v", name, two, keep)
		}
	}
	if !slices.Equal(x, keep) {
		t.Error("the tree is another one")
	}
}
