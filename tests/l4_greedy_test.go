package tests

import (
	"math"
	"strings"
	"testing"

	"loop.example/docalgebra/impl"
)

func TestWidthConstants(t *testing.T) {
	if impl.MaxWidth != 200 {
		t.Errorf("MaxWidth = %d", impl.MaxWidth)
	}
}

// TestKnownRenders has a text for each width from the one in front of it on, and which groups fit.
func TestKnownRenders(t *testing.T) {
	type step struct {
		from  int
		text  string
		flags string
	}
	for text, steps := range map[string][]step{
		"~":                         {{0, "", ""}},
		`"a"`:                       {{0, "a", ""}},
		"_":                         {{0, "\n", ""}},
		".":                         {{0, "\n", ""}},
		"!":                         {{0, "\n", ""}},
		`("a"(_"b"))`:               {{0, "a\nb", ""}},
		"[~]":                       {{0, "", "+"}},
		"[.]":                       {{0, "", "+"}},
		"[_]":                       {{0, "\n", "-"}, {1, " ", "+"}},
		`["a"]`:                     {{0, "a", "-"}, {1, "a", "+"}},
		`["abcdefghijkl"]`:          {{0, "abcdefghijkl", "-"}, {12, "abcdefghijkl", "+"}},
		"[[_]]":                     {{0, "\n", "--"}, {1, " ", "+"}},
		`[("a"(_"b"))]`:             {{0, "a\nb", "-"}, {3, "a b", "+"}},
		`[("a"(."b"))]`:             {{0, "a\nb", "-"}, {2, "ab", "+"}},
		`[("a"2<(_"b")>)]`:          {{0, "a\n  b", "-"}, {3, "a b", "+"}},
		`2<[("a"(_"b"))]>`:          {{0, "a\n  b", "-"}, {3, "a b", "+"}},
		`[("a"(_[("b"(_"c"))]))]`:   {{0, "a\nb\nc", "--"}, {3, "a\nb c", "-+"}, {5, "a b c", "+"}},
		`[([("a"(_"b"))](_"c"))]`:   {{0, "a\nb\nc", "--"}, {3, "a b\nc", "-+"}, {5, "a b c", "+"}},
		`[(["a"][(_["b"])])]`:       {{0, "a\nb", "----"}, {1, "a\nb", "-+-+"}, {3, "a b", "+"}},
		`[("("2<(.("a,"(_"b")))>)]`: {{0, "(\n  a,\n  b", "-"}, {5, "(a, b", "+"}},
		// a text behind a group without a newline
		`([("a"(_"b"))]"c")`:              {{0, "a\nbc", "-"}, {4, "a bc", "+"}},
		`([("a"(_"b"))]("c""d"))`:         {{0, "a\nbcd", "-"}, {5, "a bcd", "+"}},
		`(([("a"(_"b"))]"c")"d")`:         {{0, "a\nbcd", "-"}, {5, "a bcd", "+"}},
		`(2<[("a"(_"b"))]>(~(3<"cd">~)))`: {{0, "a\n  bcd", "-"}, {5, "a bcd", "+"}},
		`([("a"(_"b"))]["cde"])`:          {{0, "a\nbcde", "--"}, {4, "a\nbcde", "-+"}, {6, "a bcde", "++"}},
		`[([("a"(_"b"))]"c")]`:            {{0, "a\nbc", "--"}, {4, "a bc", "+"}},
		`([[("a"(_"b"))]]"c")`:            {{0, "a\nbc", "--"}, {4, "a bc", "+"}},
		// a text behind a group with a newline behind that
		`([("a"(_"b"))]("c"(_"ddddddd")))`:   {{0, "a\nbc\nddddddd", "-"}, {4, "a bc\nddddddd", "+"}},
		`([("a"(_"b"))]("c"(."ddddddd")))`:   {{0, "a\nbc\nddddddd", "-"}, {4, "a bc\nddddddd", "+"}},
		`([("a"(_"b"))]("c"(!"ddddddd")))`:   {{0, "a\nbc\nddddddd", "-"}, {4, "a bc\nddddddd", "+"}},
		`([("a"(_"b"))](_"ddddddd"))`:        {{0, "a\nb\nddddddd", "-"}, {3, "a b\nddddddd", "+"}},
		`(([("a"(_"b"))]"c")("d"(_"e")))`:    {{0, "a\nbcd\ne", "-"}, {5, "a bcd\ne", "+"}},
		`([("a"(_"b"))]9<("c"(_"d"))>)`:      {{0, "a\nbc\n         d", "-"}, {4, "a bc\n         d", "+"}},
		`([("a"(_"b"))][("c"(_"d"))])`:       {{0, "a\nbc\nd", "--"}, {4, "a bc\nd", "+-"}, {6, "a bc d", "++"}},
		`([("a"(_"b"))][("c"(_"dddd"))])`:    {{0, "a\nbc\ndddd", "--"}, {4, "a bc\ndddd", "+-"}, {9, "a bc dddd", "++"}},
		`([("aaaa"(_"b"))][("c"(_"d"))])`:    {{0, "aaaa\nbc\nd", "--"}, {4, "aaaa\nbc d", "-+"}, {7, "aaaa bc\nd", "+-"}, {9, "aaaa bc d", "++"}},
		`[([("a"(_"b"))]("c"(_"d")))]`:       {{0, "a\nbc\nd", "--"}, {4, "a bc\nd", "-+"}, {6, "a bc d", "+"}},
		`[([("a"(_"b"))]("c"[(_["d"])]))]`:   {{0, "a\nbc\nd", "----"}, {1, "a\nbc\nd", "---+"}, {4, "a bc\nd", "-+-+"}, {6, "a bc d", "+"}},
		`([[("a"(_"b"))]](("c"[.])"ddddd"))`: {{0, "a\nbc\nddddd", "---"}, {4, "a bc\nddddd", "+-"}, {9, "a bcddddd", "++"}},
		// a group in the middle of a line
		`("aa"[("b"(_"c"))])`:            {{0, "aab\nc", "-"}, {5, "aab c", "+"}},
		`("a"("a"[("b"(_"c"))]))`:        {{0, "aab\nc", "-"}, {5, "aab c", "+"}},
		`("aa"2<[("b"(_"c"))]>)`:         {{0, "aab\n  c", "-"}, {5, "aab c", "+"}},
		`("a"(_("bb"[("c"(_"d"))])))`:    {{0, "a\nbbc\nd", "-"}, {5, "a\nbbc d", "+"}},
		`("aaaaaa"(![("b"(_"c"))]))`:     {{0, "aaaaaa\nb\nc", "-"}, {3, "aaaaaa\nb c", "+"}},
		`("a"4<(_[("b"(_"c"))])>)`:       {{0, "a\n    b\n    c", "-"}, {7, "a\n    b c", "+"}},
		`("a"4<(_("bb"[("b"(_"c"))]))>)`: {{0, "a\n    bbb\n    c", "-"}, {9, "a\n    bbb c", "+"}},
		`3<(_2<(_1<[("b"(_"c"))]>)>)>`:   {{0, "\n\n     b\n      c", "-"}, {8, "\n\n     b c", "+"}},
		`(3<_>2<(_[("b"(_"c"))])>)`:      {{0, "\n\n  b\n  c", "-"}, {5, "\n\n  b c", "+"}},
		`(9<_>[("b"(_"c"))])`:            {{0, "\n         b\nc", "-"}, {12, "\n         b c", "+"}},
		`("a"(["b"](["c"][_])))`:         {{0, "abc\n", "---"}, {3, "abc\n", "++-"}, {4, "abc ", "+++"}},
		`("aa"([("b"(_"c"))]"dd"))`:      {{0, "aab\ncdd", "-"}, {7, "aab cdd", "+"}},
		// a newline that has to stay
		"[!]":                           {{0, "\n", "-"}},
		"[[[!]]]":                       {{0, "\n", "---"}},
		`[("a"(!"b"))]`:                 {{0, "a\nb", "-"}},
		`[2<("a"(!"b"))>]`:              {{0, "a\n  b", "-"}},
		`[("a"(_("b"(!"c"))))]`:         {{0, "a\nb\nc", "-"}},
		`[(("a"(!"b"))(_"c"))]`:         {{0, "a\nb\nc", "-"}},
		`[("a"(_[("b"(!"c"))]))]`:       {{0, "a\nb\nc", "--"}},
		`[([("a"(_"b"))](!"c"))]`:       {{0, "a\nb\nc", "--"}, {3, "a b\nc", "-+"}},
		`[("a"(![("b"(_"c"))]))]`:       {{0, "a\nb\nc", "--"}, {3, "a\nb c", "-+"}},
		`(!([("a"(_"b"))]!))`:           {{0, "\na\nb\n", "-"}, {3, "\na b\n", "+"}},
		`([("a"(_"b"))][("c"(!"d"))])`:  {{0, "a\nbc\nd", "--"}, {4, "a bc\nd", "+-"}},
		`[[([([("a"(_"b"))]!)]"ccc")]]`: {{0, "a\nb\nccc", "----"}, {3, "a b\nccc", "---+"}},
	} {
		d, now := parsed(t, text), 0
		var widths []int
		for width := range 201 {
			if now+1 < len(steps) && steps[now+1].from == width {
				now++
				if steps[now].text != steps[now-1].text {
					widths = append(widths, width)
				}
			}
			l, _ := impl.RenderDoc(d, width)
			s, _ := impl.RenderText(d, width)
			if want := steps[now].text; s != want || strings.Join(lineTexts(l), "\n") != want {
				t.Errorf("RenderText(%s, %d) = %q, RenderDoc %s, want %q", text, width, s, show(l), want)
			}
			if f, ok := impl.GroupFlags(d, width); !ok || flagSigns(f) != steps[now].flags {
				t.Errorf("GroupFlags(%s, %d) = %q, %v, want %q", text, width, flagSigns(f), ok, steps[now].flags)
			}
			checkGreedy(t, d, width)
		}
		checkWidths(t, d, widths)
	}
}

// TestRenderedIndents has empty lines with indentations, which a text does not tell.
func TestRenderedIndents(t *testing.T) {
	for _, c := range []struct {
		text  string
		width int
		rows  []impl.Row
		flags string
	}{
		{"3<_>", 0, []impl.Row{row(0, ""), row(3, "")}, ""},
		{"3<(_[.])>", 2, []impl.Row{row(0, ""), row(3, ""), row(3, "")}, "-"},
		{"3<(_[.])>", 3, []impl.Row{row(0, ""), row(3, "")}, "+"},
		{"(3<_>[.])", 2, []impl.Row{row(0, ""), row(3, ""), row(0, "")}, "-"},
		{"(3<_>[.])", 3, []impl.Row{row(0, ""), row(3, "")}, "+"},
		{"(3<_>2<(_[_])>)", 2, []impl.Row{row(0, ""), row(3, ""), row(2, ""), row(2, "")}, "-"},
		{"(3<_>2<(_[_])>)", 3, []impl.Row{row(0, ""), row(3, ""), row(2, " ")}, "+"},
		{"9<9<(2<!>.)>>", 0, []impl.Row{row(0, ""), row(20, ""), row(18, "")}, ""},
	} {
		checkRender(t, parsed(t, c.text), c.width, c.rows, c.flags)
	}
	checkWidths(t, parsed(t, "3<(_[.])>"), []int{3})
}

// TestSameTextOfOtherLayouts has a width that renders a document in another way, but with the same text.
func TestSameTextOfOtherLayouts(t *testing.T) {
	d := parsed(t, `(3<_>(9<[.]>(1<[.]>([(.1<.>)]"x"))))`)
	checkRender(t, d, 1, []impl.Row{row(0, ""), row(3, ""), row(9, ""), row(1, ""), row(0, ""), row(1, "x")}, "---")
	checkRender(t, d, 2, []impl.Row{row(0, ""), row(3, ""), row(9, ""), row(1, "x")}, "--+")
	checkRender(t, d, 3, []impl.Row{row(0, ""), row(3, ""), row(0, ""), row(1, "x")}, "++-")
	checkRender(t, d, 4, []impl.Row{row(0, ""), row(3, "x")}, "+++")
	checkWidths(t, d, []int{2, 3, 4})
}

func TestKnownSizes(t *testing.T) {
	for _, c := range []struct {
		text       string
		flat, lead int
	}{
		{"~", 0, 0},
		{`"a"`, 1, 1},
		{`"abcdefghijkl"`, 12, 12},
		{"_", 1, 0},
		{".", 0, 0},
		{"!", -1, 0},
		{"[[!]]", -1, 0},
		{`9<"ab">`, 2, 2},
		{`["ab"]`, 2, 2},
		{"[(__)]", 2, 0},
		{`("ab""c")`, 3, 3},
		{`("ab"(_"c"))`, 4, 2},
		{`("ab"(."c"))`, 3, 2},
		{`("ab"(!"c"))`, -1, 2},
		{`("ab"("c"!))`, -1, 3},
		{`(_"abc")`, 4, 0},
		{`("ab"(~("c"(9<"d">["e"]))))`, 5, 5},
		{`("ab"([("c"(_"d"))]"e"))`, 6, 3},
		{`("ab"([(_"d")]"e"))`, 5, 2},
		{`(["ab"]([.]"c"))`, 3, 2},
		{`((("a"("b"_))"c")"d")`, 5, 2},
		{`("f("(2<(.("aaaa,"(_"bbbb")))>(.")")))`, 13, 2},
	} {
		d := parsed(t, c.text)
		if n, ok := impl.FlatWidth(d); n != max(c.flat, 0) || ok != (c.flat >= 0) {
			t.Errorf("FlatWidth(%s) = %d, %v", c.text, n, ok)
		}
		if n, ok := impl.LeadWidth(d); n != c.lead || !ok {
			t.Errorf("LeadWidth(%s) = %d, %v", c.text, n, ok)
		}
	}
}

func TestKnownWidths(t *testing.T) {
	for text, want := range map[string][]int{
		"~": nil, "_": nil, "!": nil, `"a"`: nil, `["a"]`: nil, "[~]": nil, "[.]": nil, "[!]": nil, `[("a"!)]`: nil,
		"[_]":                     {1},
		`(["a"][_])`:              {2},
		`(["a"](_["b"]))`:         nil,
		`[("a"(_[("b"(_"c"))]))]`: {3, 5},
	} {
		checkWidths(t, parsed(t, text), want)
	}
	for n := 1; n <= 202; n++ {
		want := []int{n}
		if n > 200 {
			want = nil
		}
		checkWidths(t, flatGroup(n), want)
		checkWidths(t, cat(flatGroup(1), texts(n-1)), want)
	}
}

func TestShortDocsRendered(t *testing.T) {
	for n, list := range docsByLength(9, "~_\"a[2") {
		for _, d := range list {
			checkGreedy(t, d, append(upTo(n+1), 200)...)
			checkSizes(t, d, n+1)
		}
	}
}

func TestAnyDocsRendered(t *testing.T) {
	for _, d := range anyDocs(60, 1) {
		checkGreedy(t, d, upTo(200)...)
		checkSizes(t, d, 200)
	}
	for _, d := range anyDocs(2000, 2) {
		checkGreedy(t, d, 0, 1, 7, 20, 33, 60, 120, 200)
	}
}

func TestGreatDocsRendered(t *testing.T) {
	around := layers()
	long := func(d impl.Doc) impl.Doc { return cat(word("abcdefghijkl"), d) }
	for name, d := range map[string]impl.Doc{
		"indented":      deep(37, cat(leaf(impl.OpLine), group(leaf(impl.OpBreak))), around["nest"]),
		"long line":     deep(37, flatGroup(2), long),
		"long group":    group(deep(36, flatGroup(2), long)),
		"long behind":   cat(flatGroup(2), deep(37, word("a"), long)),
		"groups":        groups(39, leaf(impl.OpLine)),
		"hard groups":   groups(38, group(leaf(impl.OpHard))),
		"wide":          wide(80),
		"lines":         deep(19, leaf(impl.OpLine), func(d impl.Doc) impl.Doc { return group(cat(leaf(impl.OpLine), d)) }),
		"lines left":    deep(19, leaf(impl.OpLine), func(d impl.Doc) impl.Doc { return group(cat(d, leaf(impl.OpLine))) }),
		"texts between": deep(12, flatGroup(12), func(d impl.Doc) impl.Doc { return cat(word("abc"), group(cat(leaf(impl.OpLine), d))) }),
		"nests between": deep(12, flatGroup(9), func(d impl.Doc) impl.Doc { return group(nest(3, cat(leaf(impl.OpLine), d))) }),
	} {
		if !impl.DocValid(d) {
			t.Fatalf("%s: the test's document is not valid", name)
		}
		checkGreedy(t, d, upTo(200)...)
		checkSizes(t, d, 200)
	}
}

// TestExactFit has groups that have as many bytes as the width, with all that counts, and one more.
func TestExactFit(t *testing.T) {
	for _, total := range []int{1, 2, 3, 13, 64, 100, 199, 200, 201} {
		for _, part := range [][4]int{{0, 0, total, 0}, {total - 1, 0, 1, 0}, {0, total - 1, 1, 0}, {0, 0, 1, total - 1}, {total / 4, total / 4, total - total/4*3, total / 4}} {
			line := cat(texts(part[1]), cat(flatGroup(part[2]), texts(part[3])))
			d := nests(part[0], cat(leaf(impl.OpLine), line))
			if !impl.DocValid(d) {
				t.Fatalf("%d of %v: the test's document is not valid", total, part)
			}
			for _, end := range []impl.Doc{leaf(impl.OpEmpty), cat(leaf(impl.OpHard), texts(30)), group(cat(leaf(impl.OpBreak), texts(30)))} {
				checkExactFit(t, cat(d, end), total)
			}
		}
	}
}

// checkExactFit checks that the first group of d fits from a width on.
func checkExactFit(t *testing.T, d impl.Doc, from int) {
	t.Helper()
	for width := max(from-2, 0); width <= min(from+1, 200); width++ {
		f, ok := impl.GroupFlags(d, width)
		if !ok || len(f) == 0 || f[0] != (width >= from) {
			t.Fatalf("GroupFlags(%s, %d) = %q, %v", textOf(d), width, flagSigns(f), ok)
		}
		checkGreedy(t, d, width)
	}
	for _, width := range []int{0, 200} {
		if f, ok := impl.GroupFlags(d, width); !ok || f[0] != (width >= from) {
			t.Fatalf("GroupFlags(%s, %d) = %q, %v", textOf(d), width, flagSigns(f), ok)
		}
	}
}

// TestRenderedIsAChoice checks the promise for documents and for a group of each: the layout is one of those of the
// choices, that of a group is flat if it fits, and that of the document in it otherwise.
func TestRenderedIsAChoice(t *testing.T) {
	docs := choiceParts(t)
	for _, list := range docsByLength(7, "~_\"a[2") {
		docs = append(docs, list...)
	}
	told := 0
	for _, d := range append(docs, anyDocs(300, 3)...) {
		for _, width := range []int{0, 1, 2, 3, 4, 5, 6, 9, 15, 40, 80, 199, 200} {
			checkGroupOf(t, d, width)
			l, _ := impl.RenderDoc(d, width)
			if n, ok := impl.CountChoices(d); !ok || n > 300 {
				continue
			}
			told++
			if !impl.HasLayout(d, l) {
				t.Fatalf("RenderDoc(%s, %d) = %s, which is no layout of it", textOf(d), width, show(l))
			}
		}
	}
	if told < 5000 {
		t.Errorf("only %d layouts are compared", told)
	}
}

func checkGroupOf(t *testing.T, d impl.Doc, width int) {
	t.Helper()
	if deepness(d) == 40 || impl.DocSize(d) == 80 {
		return
	}
	open, _ := impl.RenderDoc(d, width)
	inside, _ := impl.GroupFlags(d, width)
	flat, can := flattened(d)
	if can && len(flat) <= width {
		checkRender(t, group(d), width, lines(flat), "+")
		return
	}
	checkRender(t, group(d), width, open, "-"+flagSigns(inside))
}

func TestOtherWidths(t *testing.T) {
	for _, text := range []string{"~", "_", `["a"]`, `[("a"(_"b"))]`, "[!]", sample} {
		d := parsed(t, text)
		for _, width := range []int{math.MinInt, -1 << 32, -200, -2, -1, 201, 202, 1 << 32, math.MaxInt} {
			checkNotRendered(t, text, d, width)
		}
		checkGreedy(t, d, 0, 1, 199, 200)
	}
}

func TestNoDocsRendered(t *testing.T) {
	for name, d := range noDocs() {
		for _, width := range []int{math.MinInt, -1, 0, 1, 80, 200, 201, math.MaxInt} {
			checkNotRendered(t, name, d, width)
		}
		if n, ok := impl.FlatWidth(d); ok || n != 0 {
			t.Errorf("%s: FlatWidth = %d, %v", name, n, ok)
		}
		if n, ok := impl.LeadWidth(d); ok || n != 0 {
			t.Errorf("%s: LeadWidth = %d, %v", name, n, ok)
		}
		if w, ok := impl.WidthsOf(d); ok || len(w) > 0 {
			t.Errorf("%s: WidthsOf = %v, %v", name, w, ok)
		}
	}
}
