package tests

import (
	"fmt"
	"math"
	"strings"
	"testing"

	"loop.example/docalgebra/impl"
)

func TestLayoutValidBytes(t *testing.T) {
	const allowed = " abcdefghijklmnopqrstuvwxyz0123456789,:={}()[]"
	for c := range 256 {
		sign := string([]byte{byte(c)})
		want := strings.Contains(allowed, sign)
		for _, s := range []string{sign, sign + "a", "a" + sign, "abcde" + sign + "vw xyz", letters(1998) + sign} {
			for _, l := range [][]impl.Row{lines(s), lines("a", s), lines(s, "a"), lines("a", s, "b")} {
				if impl.LayoutValid(l) != want {
					t.Errorf("LayoutValid(%s) = %v", show(l), !want)
				}
			}
		}
	}
}

func TestLayoutValidLines(t *testing.T) {
	for n := range 450 {
		if got, want := impl.LayoutValid(manyLines(n)), n >= 1 && n <= 200; got != want {
			t.Errorf("LayoutValid of %d lines = %v", n, got)
		}
	}
}

func TestLayoutValidIndents(t *testing.T) {
	for _, indent := range []int{math.MinInt, -400, -1, 0, 1, 2, 399, 400, 401, 402, 1 << 32, math.MaxInt} {
		for _, text := range []string{"", "a"} {
			want := indent >= 0 && indent <= 400
			for _, l := range [][]impl.Row{{{}, row(indent, text)}, {{}, row(400, ""), row(indent, text), row(0, "")}} {
				if got := impl.LayoutValid(l); got != want {
					t.Errorf("LayoutValid(%s) = %v", show(l), got)
				}
			}
			for _, l := range [][]impl.Row{{row(indent, text)}, {row(indent, text), row(5, "b")}} {
				if got := impl.LayoutValid(l); got != (indent == 0) {
					t.Errorf("LayoutValid(%s) = %v", show(l), got)
				}
			}
		}
	}
}

func TestLayoutValidTexts(t *testing.T) {
	for _, n := range []int{0, 1, 12, 13, 1999, 2000, 2001, 1 << 20} {
		for _, l := range [][]impl.Row{lines(letters(n)), lines("a", letters(n)), {{}, row(400, strings.Repeat(" ", n)), {}}} {
			if got, want := impl.LayoutValid(l), n < 2000; got != want {
				t.Errorf("LayoutValid with a Text of %d bytes = %v", n, got)
			}
		}
	}
}

func TestLayoutValidSamples(t *testing.T) {
	for _, l := range layoutSamples() {
		if !impl.LayoutValid(l) {
			t.Errorf("LayoutValid(%s) = false", show(l))
		}
	}
	for name, l := range noLayouts() {
		if impl.LayoutValid(l) {
			t.Errorf("%s: LayoutValid = true", name)
		}
	}
}

func TestLayoutSame(t *testing.T) {
	all := layoutSamples()
	for _, l := range noLayouts() {
		if len(l) > 0 {
			all = append(all, l)
		}
	}
	all = append(all, nil, lines("a", "a"), lines("a", "a", "a"), []impl.Row{{}, row(4, "")}, []impl.Row{{}, row(5, " ")}, lines("ab c", "", "D"))
	for i, a := range all {
		for j, b := range all {
			if got := impl.LayoutSame(a, roomyRows(b)); got != (i == j) {
				t.Errorf("LayoutSame(%s, %s) = %v", show(a), show(b), got)
			}
		}
	}
	if !impl.LayoutSame(nil, []impl.Row{}) || impl.LayoutSame([]impl.Row{}, lines("")) {
		t.Error("LayoutSame of empty lists is wrong")
	}
}

func TestLayoutTexts(t *testing.T) {
	for _, c := range []struct {
		l     []impl.Row
		text  string
		width int
	}{
		{lines(""), "", 0},
		{lines("a"), "a", 1},
		{lines("  "), "  ", 2},
		{lines("", ""), "\n", 0},
		{lines("", "", ""), "\n\n", 0},
		{lines("abc", "d"), "abc\nd", 3},
		{lines("a", "", "bcd"), "a\n\nbcd", 3},
		{[]impl.Row{row(0, "a"), row(2, "b")}, "a\n  b", 3},
		{[]impl.Row{row(0, "a"), row(9, "")}, "a\n", 1},
		{[]impl.Row{row(0, ""), row(400, ""), row(1, "")}, "\n\n", 0},
		{[]impl.Row{row(0, ""), row(2, " ")}, "\n   ", 3},
		{[]impl.Row{row(0, "a"), row(3, " b "), row(5, ""), row(1, "c")}, "a\n    b \n\n c", 6},
		{[]impl.Row{row(0, "abcdef"), row(5, "g"), row(4, "h")}, "abcdef\n     g\n    h", 6},
	} {
		if got := impl.LayoutText(c.l); got != c.text {
			t.Errorf("LayoutText(%s) = %q, want %q", show(c.l), got, c.text)
		}
		if got := impl.LayoutWidth(c.l); got != c.width {
			t.Errorf("LayoutWidth(%s) = %d, want %d", show(c.l), got, c.width)
		}
	}
}

func TestTextsOfGreatLayouts(t *testing.T) {
	l := []impl.Row{row(0, letters(1999))}
	for len(l) < 200 {
		l = append(l, row(400, letters(1999)))
	}
	if got := impl.LayoutText(l); got != strings.Join(lineTexts(l), "\n") || len(got) != 200*2399-400+199 {
		t.Errorf("LayoutText has %d bytes", len(got))
	}
	if impl.LayoutWidth(l) != 2399 || impl.Overflow(l, 0) != 200*2399-400 || impl.Overflow(l, 2000) != 199*399 || impl.Overflow(l, 2398) != 199 || impl.Overflow(l, 2399) != 0 {
		t.Errorf("LayoutWidth = %d, Overflow = %d", impl.LayoutWidth(l), impl.Overflow(l, 0))
	}
}

func TestOverflow(t *testing.T) {
	l := []impl.Row{row(0, "abc"), row(2, "d"), row(9, ""), row(4, "ef"), row(0, "")}
	for width, want := range []int{12, 9, 6, 3, 2, 1, 0, 0, 0, 0} {
		if got := impl.Overflow(l, width); got != want {
			t.Errorf("Overflow in %d = %d, want %d", width, got, want)
		}
	}
	for _, width := range []int{200, 201, 1 << 32, math.MaxInt, -1, -2, -200, math.MinInt} {
		if got := impl.Overflow(l, width); got != 0 {
			t.Errorf("Overflow in %d = %d", width, got)
		}
	}
	long := lines(letters(203))
	if impl.Overflow(long, 200) != 3 || impl.Overflow(long, 201) != 2 || impl.Overflow(long, 202) != 1 || impl.Overflow(long, 203) != 0 {
		t.Error("Overflow around the greatest width of a page is wrong")
	}
}

func TestSizesOfSamples(t *testing.T) {
	for _, l := range layoutSamples() {
		widest := 0
		for _, s := range lineTexts(l) {
			widest = max(widest, len(s))
		}
		if got := impl.LayoutWidth(l); got != widest {
			t.Errorf("LayoutWidth(%s) = %d, want %d", show(l), got, widest)
		}
		for width := range widest + 3 {
			want := 0
			for _, s := range lineTexts(l) {
				want += max(len(s)-width, 0)
			}
			if got := impl.Overflow(l, width); got != want {
				t.Errorf("Overflow(%s, %d) = %d, want %d", show(l), width, got, want)
			}
		}
		if got := impl.LayoutText(l); got != strings.Join(lineTexts(l), "\n") {
			t.Errorf("LayoutText(%s) = %q", show(l), got)
		}
	}
}

func TestSizesOfNoLayouts(t *testing.T) {
	for name, l := range noLayouts() {
		if impl.LayoutText(l) != "" || impl.LayoutWidth(l) != 0 || impl.Overflow(l, 0) != 0 || impl.Overflow(l, -1) != 0 {
			t.Errorf("%s: LayoutText, LayoutWidth or Overflow takes it", name)
		}
	}
}

func TestCatLayouts(t *testing.T) {
	for _, c := range []struct{ a, b, want []impl.Row }{
		{lines(""), lines(""), lines("")},
		{lines("a"), lines("b"), lines("ab")},
		{lines("a"), lines(""), lines("a")},
		{lines(""), lines("b"), lines("b")},
		{lines("a "), lines(" b"), lines("a  b")},
		{lines("", ""), lines("", ""), lines("", "", "")},
		{lines("a", "b"), lines("c"), lines("a", "bc")},
		{lines("a"), lines("b", "c"), lines("ab", "c")},
		{lines("a", "b", "c"), lines("d", "e", "f"), lines("a", "b", "cd", "e", "f")},
		{[]impl.Row{row(0, "a"), row(2, "b")}, lines("c"), []impl.Row{row(0, "a"), row(2, "bc")}},
		{[]impl.Row{row(0, "a"), row(2, "")}, lines("c"), []impl.Row{row(0, "a"), row(2, "c")}},
		{[]impl.Row{row(0, "a"), row(2, "")}, lines("", ""), []impl.Row{row(0, "a"), row(2, ""), row(0, "")}},
		{[]impl.Row{row(0, "a"), row(2, "b")}, []impl.Row{row(0, "c"), row(5, "d")}, []impl.Row{row(0, "a"), row(2, "bc"), row(5, "d")}},
		{lines("abc"), []impl.Row{row(0, ""), row(1, "d"), row(400, "")}, []impl.Row{row(0, "abc"), row(1, "d"), row(400, "")}},
	} {
		got, ok := impl.CatLayouts(c.a, c.b)
		checkRows(t, fmt.Sprintf("CatLayouts(%s, %s)", show(c.a), show(c.b)), got, ok, c.want)
	}
}

func TestCatLayoutsInGroups(t *testing.T) {
	all := layoutSamples()
	for _, a := range all {
		for _, b := range all {
			ab, ok := impl.CatLayouts(a, b)
			if !ok || !impl.LayoutValid(ab) || len(ab) != len(a)+len(b)-1 {
				t.Fatalf("CatLayouts(%s, %s) = %s, %v", show(a), show(b), show(ab), ok)
			}
			for _, c := range all {
				bc, _ := impl.CatLayouts(b, c)
				first, ok := impl.CatLayouts(ab, c)
				last, also := impl.CatLayouts(a, bc)
				if !ok || !also || !sameRows(first, last) {
					t.Fatalf("%s, %s and %s: CatLayouts = %s or %s", show(a), show(b), show(c), show(first), show(last))
				}
			}
		}
		right, _ := impl.CatLayouts(a, lines(""))
		left, _ := impl.CatLayouts(lines(""), a)
		if !sameRows(right, a) || !sameRows(left, a) {
			t.Errorf("CatLayouts of %s and an empty line = %s and %s", show(a), show(right), show(left))
		}
	}
}

func TestCatLayoutsLimits(t *testing.T) {
	for _, c := range []struct {
		a, b []impl.Row
		want bool
	}{
		{manyLines(100), manyLines(101), true},
		{manyLines(101), manyLines(101), false},
		{manyLines(200), manyLines(1), true},
		{manyLines(1), manyLines(200), true},
		{manyLines(200), manyLines(2), false},
		{manyLines(2), manyLines(200), false},
		{manyLines(200), manyLines(200), false},
		{lines(letters(999)), lines(letters(1000)), true},
		{lines(letters(1000)), lines(letters(1000)), false},
		{lines(letters(1999)), lines(""), true},
		{lines(""), lines(letters(1999)), true},
		{lines(letters(1999)), lines(" "), false},
		{lines(" "), lines(letters(1999)), false},
		{lines("a", letters(1999)), lines("b", "c"), false},
		{lines("a", "b"), lines(letters(1999), "c"), false},
		{lines(letters(1999), ""), lines("b", letters(1999)), true},
		{[]impl.Row{{}, row(400, letters(1998))}, []impl.Row{row(0, "a"), row(400, "b")}, true},
	} {
		var want []impl.Row
		if c.want {
			n := len(c.a) - 1
			want = append(append(want, c.a...), c.b[1:]...)
			want[n] = row(c.a[n].Indent, c.a[n].Text+c.b[0].Text)
		}
		got, ok := impl.CatLayouts(c.a, c.b)
		checkRows(t, fmt.Sprintf("CatLayouts of %d and %d lines", len(c.a), len(c.b)), got, ok, want)
	}
}

func TestNestLayout(t *testing.T) {
	for _, c := range []struct {
		n       int
		l, want []impl.Row
	}{
		{0, lines("a", "b"), lines("a", "b")},
		{3, lines("a"), lines("a")},
		{200, lines(""), lines("")},
		{2, lines("", ""), []impl.Row{row(0, ""), row(2, "")}},
		{2, lines("a", "b", "c"), []impl.Row{row(0, "a"), row(2, "b"), row(2, "c")}},
		{5, []impl.Row{row(0, "a"), row(1, "b"), row(0, ""), row(7, "c")}, []impl.Row{row(0, "a"), row(6, "b"), row(5, ""), row(12, "c")}},
		{10, []impl.Row{row(0, " "), row(4, "  ")}, []impl.Row{row(0, " "), row(14, "  ")}},
	} {
		got, ok := impl.NestLayout(c.n, c.l)
		checkRows(t, fmt.Sprintf("NestLayout(%d, %s)", c.n, show(c.l)), got, ok, c.want)
	}
}

func TestNestLayoutLimits(t *testing.T) {
	for _, n := range []int{math.MinInt, -400, -1, 0, 1, 199, 200, 201, 400, math.MaxInt} {
		for _, indent := range []int{0, 1, 2, 199, 200, 201, 202, 399, 400} {
			fits := n >= 0 && n <= 200
			var one, three []impl.Row
			if fits {
				one = lines("a")
			}
			if fits && indent+n <= 400 {
				three = []impl.Row{row(0, "a"), row(n, "b"), row(indent+n, "")}
			}
			got, ok := impl.NestLayout(n, lines("a"))
			checkRows(t, fmt.Sprintf("NestLayout(%d, ..) of one line", n), got, ok, one)
			got, ok = impl.NestLayout(n, []impl.Row{row(0, "a"), row(0, "b"), row(indent, "")})
			checkRows(t, fmt.Sprintf("NestLayout(%d, ..) with an Indent of %d", n, indent), got, ok, three)
		}
	}
	most := manyLines(200)
	if l, ok := impl.NestLayout(200, most); !ok || len(l) != 200 || l[199].Indent != most[199].Indent+200 || l[0] != most[0] {
		t.Errorf("NestLayout of 200 lines = %v", ok)
	}
}

func TestNestLayoutLaws(t *testing.T) {
	for _, a := range layoutSamples() {
		for _, n := range []int{0, 1, 2, 50} {
			for _, m := range []int{0, 3, 150} {
				inner, _ := impl.NestLayout(m, a)
				twice, ok := impl.NestLayout(n, inner)
				once, also := impl.NestLayout(n+m, a)
				if !ok || !also || !sameRows(twice, once) {
					t.Errorf("NestLayout of %s by %d and %d = %s, not %s", show(a), m, n, show(twice), show(once))
				}
			}
			for _, b := range layoutSamples() {
				ab, _ := impl.CatLayouts(a, b)
				whole, ok := impl.NestLayout(n, ab)
				first, _ := impl.NestLayout(n, a)
				second, _ := impl.NestLayout(n, b)
				parts, also := impl.CatLayouts(first, second)
				if !ok || !also || !sameRows(whole, parts) {
					t.Errorf("NestLayout by %d of %s and %s = %s, not %s", n, show(a), show(b), show(whole), show(parts))
				}
			}
		}
	}
}

func TestJoinsOfNoLayouts(t *testing.T) {
	for name, l := range noLayouts() {
		for _, good := range [][]impl.Row{lines(""), lines("a", "b")} {
			for _, pair := range [][2][]impl.Row{{l, good}, {good, l}, {l, l}} {
				got, ok := impl.CatLayouts(pair[0], pair[1])
				checkRows(t, name+": CatLayouts", got, ok, nil)
			}
		}
		for _, n := range []int{-1, 0, 1, 200, 201} {
			got, ok := impl.NestLayout(n, l)
			checkRows(t, name+": NestLayout", got, ok, nil)
		}
	}
}

func TestKnownDocLayouts(t *testing.T) {
	for _, c := range []struct {
		text string
		open []impl.Row
		flat string
		ok   bool
	}{
		{"~", lines(""), "", true},
		{`"a"`, lines("a"), "a", true},
		{`"abcdefghijkl"`, lines("abcdefghijkl"), "abcdefghijkl", true},
		{"_", lines("", ""), " ", true},
		{".", lines("", ""), "", true},
		{"!", lines("", ""), "", false},
		{"[_]", lines("", ""), " ", true},
		{"[[.]]", lines("", ""), "", true},
		{"9<~>", lines(""), "", true},
		{`9<"a">`, lines("a"), "a", true},
		{"9<.>", []impl.Row{row(0, ""), row(9, "")}, "", true},
		{"0<_>", lines("", ""), " ", true},
		{"2<3<_>>", []impl.Row{row(0, ""), row(5, "")}, " ", true},
		{"(__)", lines("", "", ""), "  ", true},
		{`("a""b")`, lines("ab"), "ab", true},
		{`(~(~"b"))`, lines("b"), "b", true},
		{`("a"2<(_"b")>)`, []impl.Row{row(0, "a"), row(2, "b")}, "a b", true},
		{`[("a"(_"b"))]`, lines("a", "b"), "a b", true},
		{`[("a"(!"b"))]`, lines("a", "b"), "", false},
		{`("a"(2<_>"b"))`, []impl.Row{row(0, "a"), row(2, "b")}, "a b", true},
		{`(2<("a"_)>("b"(."c")))`, []impl.Row{row(0, "a"), row(2, "b"), row(0, "c")}, "a bc", true},
		{`("a"2<(_("bb"3<(._)>))>)`, []impl.Row{row(0, "a"), row(2, "bb"), row(5, ""), row(5, "")}, "a bb ", true},
		{`[("f("(2<[(.("x,"(_"y")))]>(.")")))]`, []impl.Row{row(0, "f("), row(2, "x,"), row(2, "y"), row(0, ")")}, "f(x, y)", true},
		{`4<("{"(1<!>("a"(2<(_[!])>"}"))))>`, []impl.Row{row(0, "{"), row(5, "a"), row(6, ""), row(6, "}")}, "", false},
	} {
		d := parsed(t, c.text)
		open, ok := impl.OpenLayout(d)
		checkRows(t, fmt.Sprintf("OpenLayout(%s)", c.text), open, ok, c.open)
		if flat, ok := impl.FlatText(d); ok != c.ok || flat != c.flat {
			t.Errorf("FlatText(%s) = %q, %v", c.text, flat, ok)
		}
	}
}

func TestShortDocLayouts(t *testing.T) {
	for _, list := range docsByLength(9, "~_\"a[2") {
		for _, d := range list {
			checkDocLayouts(t, d)
		}
	}
}

// checkDocLayouts checks the layouts of a document against those that the tests find in another way.
func checkDocLayouts(t *testing.T, d impl.Doc) {
	t.Helper()
	open, ok := impl.OpenLayout(d)
	if !ok || !sameRows(open, laidOut(d)) || !impl.LayoutValid(open) {
		t.Fatalf("OpenLayout(%s) = %s, %v", textOf(d), show(open), ok)
	}
	want, flat := flattened(d)
	if got, ok := impl.FlatText(d); got != want || ok != flat || ok != impl.CanFlatten(d) {
		t.Fatalf("FlatText(%s) = %q, %v", textOf(d), got, ok)
	}
}

func TestOpenLayoutByParts(t *testing.T) {
	texts := []string{"~", `"a"`, "_", "!", "3<_>", `("a"2<(_"b")>)`, `[("a"(._))]`, `(_("c"[(!"d")]))`}
	for _, a := range texts {
		first, _ := impl.OpenLayout(parsed(t, a))
		for _, b := range texts {
			second, _ := impl.OpenLayout(parsed(t, b))
			want, _ := impl.CatLayouts(first, second)
			got, ok := impl.OpenLayout(parsed(t, "("+a+b+")"))
			checkRows(t, fmt.Sprintf("OpenLayout of %s and %s", a, b), got, ok, want)
		}
		for n := range 10 {
			want, _ := impl.NestLayout(n, first)
			got, ok := impl.OpenLayout(nest(n, parsed(t, a)))
			checkRows(t, fmt.Sprintf("OpenLayout of %s in a nest", a), got, ok, want)
		}
		got, ok := impl.OpenLayout(group(parsed(t, a)))
		checkRows(t, fmt.Sprintf("OpenLayout of %s in a group", a), got, ok, first)
	}
}

func TestGreatDocLayouts(t *testing.T) {
	nests := layers()["nest"]
	texts := func(d impl.Doc) impl.Doc { return cat(word("abcdefghijkl"), d) }
	for name, d := range map[string]impl.Doc{
		"indented":    deep(39, leaf(impl.OpLine), nests),
		"text behind": deep(38, cat(leaf(impl.OpHard), word("a")), nests),
		"long line":   deep(39, word("abcdefghijkl"), texts),
		"many lines":  deep(39, leaf(impl.OpBreak), func(d impl.Doc) impl.Doc { return cat(leaf(impl.OpLine), d) }),
		"lines left":  deep(39, leaf(impl.OpBreak), func(d impl.Doc) impl.Doc { return cat(d, leaf(impl.OpLine)) }),
		"wide":        wide(80),
		"groups":      deep(39, leaf(impl.OpLine), group),
		"nested":      deep(19, leaf(impl.OpBreak), func(d impl.Doc) impl.Doc { return nest(9, cat(leaf(impl.OpLine), d)) }),
	} {
		if !impl.DocValid(d) {
			t.Fatalf("%s: the test's document is not valid", name)
		}
		checkDocLayouts(t, d)
	}
	if l, ok := impl.OpenLayout(deep(39, leaf(impl.OpLine), nests)); !ok || l[1].Indent != 351 {
		t.Errorf("OpenLayout of 39 nests = %v, %v", l, ok)
	}
	if s, ok := impl.FlatText(deep(39, word("abcdefghijkl"), texts)); !ok || len(s) != 480 {
		t.Errorf("FlatText of 40 texts = %q, %v", s, ok)
	}
}

func TestLayoutsOfNoDocs(t *testing.T) {
	for name, d := range noDocs() {
		l, ok := impl.OpenLayout(d)
		checkRows(t, name+": OpenLayout", l, ok, nil)
		if s, ok := impl.FlatText(d); ok || s != "" {
			t.Errorf("%s: FlatText = %q, %v", name, s, ok)
		}
	}
}
