package tests

import (
	"math"
	"testing"

	"loop.example/docalgebra/impl"
)

func cost(over, lines int) impl.Cost { return impl.Cost{Over: over, Lines: lines} }

func TestKnownCosts(t *testing.T) {
	for _, c := range []struct {
		l     []impl.Row
		width int
		want  impl.Cost
	}{
		{lines(""), 0, cost(0, 1)},
		{lines("a"), 0, cost(1, 1)},
		{lines("a"), 1, cost(0, 1)},
		{lines("", ""), 0, cost(0, 2)},
		{lines("a", "bbbb", "cc"), 0, cost(7, 3)},
		{lines("a", "bbbb", "cc"), 1, cost(4, 3)},
		{lines("a", "bbbb", "cc"), 2, cost(2, 3)},
		{lines("a", "bbbb", "cc"), 4, cost(0, 3)},
		{lines("a", "bbbb", "cc"), 200, cost(0, 3)},
		{lines(" ", "a  "), 0, cost(4, 2)},
		{[]impl.Row{row(0, "a"), row(5, "b")}, 4, cost(2, 2)},
		{[]impl.Row{row(0, "a"), row(5, "b")}, 6, cost(0, 2)},
		{[]impl.Row{row(0, "a"), row(5, "")}, 0, cost(1, 2)},
		{[]impl.Row{row(0, ""), row(400, "")}, 0, cost(0, 2)},
		{[]impl.Row{row(0, letters(1999)), row(400, letters(1999))}, 0, cost(4398, 2)},
		{[]impl.Row{row(0, letters(1999)), row(400, letters(1999))}, 200, cost(3998, 2)},
		{[]impl.Row{row(0, letters(200)), row(200, "a")}, 199, cost(3, 2)},
		{[]impl.Row{row(0, letters(200)), row(200, "a")}, 200, cost(1, 2)},
	} {
		if got, ok := impl.CostOf(c.l, c.width); !ok || got != c.want {
			t.Errorf("CostOf(%s, %d) = %v, %v, want %v", show(c.l), c.width, got, ok, c.want)
		}
	}
	for _, n := range []int{1, 2, 199, 200} {
		if got, ok := impl.CostOf(make([]impl.Row, n), 0); !ok || got != cost(0, n) {
			t.Errorf("CostOf(%d empty lines, 0) = %v, %v", n, got, ok)
		}
	}
}

func TestCostsOfLayouts(t *testing.T) {
	for _, l := range append(layoutSamples(), manyLines(200)) {
		o := offersOf([][]impl.Row{l})[0]
		for _, width := range upTo(200) {
			if c, ok := impl.CostOf(l, width); !ok || c != o.price(width) {
				t.Fatalf("CostOf(%s, %d) = %v, %v, want %v", show(l), width, c, ok, o.price(width))
			}
		}
		for _, width := range otherWidths {
			if c, ok := impl.CostOf(l, width); ok || c != (impl.Cost{}) {
				t.Errorf("CostOf(%s, %d) = %v, %v", show(l), width, c, ok)
			}
		}
	}
}

// otherWidths are not between 0 and 200.
var otherWidths = []int{math.MinInt, -1 << 32, -200, -2, -1, 201, 202, 1 << 32, math.MaxInt}

func TestCostsOfNoLayouts(t *testing.T) {
	for name, l := range noLayouts() {
		for _, width := range append(otherWidths, 0, 1, 80, 199, 200) {
			if c, ok := impl.CostOf(l, width); ok || c != (impl.Cost{}) {
				t.Errorf("%s: CostOf(.., %d) = %v, %v", name, width, c, ok)
			}
		}
	}
}

func TestCompareCosts(t *testing.T) {
	numbers := []int{math.MinInt, math.MinInt + 1, -1 << 32, -7, -1, 0, 1, 2, 300, 1 << 32, math.MaxInt - 1, math.MaxInt}
	var ascending []impl.Cost
	for _, over := range numbers {
		for _, lines := range numbers {
			ascending = append(ascending, cost(over, lines))
		}
	}
	for i, a := range ascending {
		for j, b := range ascending {
			want := 0
			if i < j {
				want = -1
			} else if i > j {
				want = 1
			}
			if got := impl.CompareCosts(a, b); got != want {
				t.Fatalf("CompareCosts(%v, %v) = %d, want %d", a, b, got, want)
			}
		}
	}
}

// TestKnownBest has the text and the cost of the best layout, and the gap, in some widths of each document.
func TestKnownBest(t *testing.T) {
	type step struct {
		width int
		best  string
		cost  impl.Cost
		gap   impl.Cost
	}
	same := impl.Cost{}
	for text, steps := range map[string][]step{
		// one layout
		"~":                 {{0, "", cost(0, 1), same}, {200, "", cost(0, 1), same}},
		`"abc"`:             {{0, "abc", cost(3, 1), same}, {2, "abc", cost(1, 1), same}, {3, "abc", cost(0, 1), same}},
		`("a"4<(!"bb")>)`:   {{0, "a\n    bb", cost(7, 2), same}, {5, "a\n    bb", cost(1, 2), same}, {6, "a\n    bb", cost(0, 2), same}},
		`[("a"(!"b"))]`:     {{0, "a\nb", cost(2, 2), same}, {200, "a\nb", cost(0, 2), same}},
		`["abc"]`:           {{0, "abc", cost(3, 1), same}, {3, "abc", cost(0, 1), same}},
		`[([_](!["abc"]))]`: {{0, "\n\nabc", cost(3, 3), same}, {1, " \nabc", cost(2, 2), same}},
		// two layouts
		"[_]":                   {{0, "\n", cost(0, 2), same}, {1, " ", cost(0, 1), same}},
		"[.]":                   {{0, "", cost(0, 1), same}, {200, "", cost(0, 1), same}},
		`[("a"(_"b"))]`:         {{0, "a\nb", cost(2, 2), same}, {1, "a\nb", cost(0, 2), same}, {2, "a\nb", cost(0, 2), same}, {3, "a b", cost(0, 1), same}},
		`("a"9<[(."b")]>)`:      {{0, "ab", cost(2, 1), cost(9, 1)}, {1, "ab", cost(1, 1), cost(8, 1)}, {2, "ab", cost(0, 1), same}},
		`("a"[.])`:              {{0, "a", cost(1, 1), cost(0, 1)}, {1, "a", cost(0, 1), same}},
		`("a"([.]"b"))`:         {{0, "ab", cost(2, 1), cost(0, 1)}, {1, "a\nb", cost(0, 2), same}, {2, "ab", cost(0, 1), same}},
		`("a"1<[(_"b")]>)`:      {{0, "a b", cost(3, 1), cost(0, 1)}, {1, "a\n b", cost(1, 2), same}, {2, "a\n b", cost(0, 2), same}, {3, "a b", cost(0, 1), same}},
		`("a"(9<[_]>(!"bbb")))`: {{0, "a\n\nbbb", cost(4, 3), same}, {1, "a\n\nbbb", cost(2, 3), same}, {2, "a \nbbb", cost(1, 2), same}},
		`([("a"(_"bbbb"))]("cccccc"(_"d")))`: {
			{0, "a\nbbbbcccccc\nd", cost(12, 3), same}, {6, "a\nbbbbcccccc\nd", cost(4, 3), same},
			{10, "a\nbbbbcccccc\nd", cost(0, 3), same}, {11, "a\nbbbbcccccc\nd", cost(0, 3), same}, {12, "a bbbbcccccc\nd", cost(0, 2), same},
		},
		// two layouts with the same cost, of which the first one is the best
		`([("a"(_"b"))][("c"(_"d"))])`: {
			{0, "a\nbc\nd", cost(4, 3), same}, {1, "a\nbc\nd", cost(1, 3), same}, {2, "a\nbc\nd", cost(0, 3), same}, {3, "a\nbc\nd", cost(0, 3), same},
			{4, "a bc\nd", cost(0, 2), same}, {5, "a bc\nd", cost(0, 2), same}, {6, "a bc d", cost(0, 1), same},
		},
		`([("aaaa"(_"b"))][("c"(_"d"))])`: {
			{4, "aaaa\nbc d", cost(0, 2), same}, {6, "aaaa\nbc d", cost(0, 2), same}, {7, "aaaa bc\nd", cost(0, 2), same}, {9, "aaaa bc d", cost(0, 1), same},
		},
		// a rendered layout that has more lines than the best one
		`([("aaaa"(_"b"))][("c"(_("d"(_"e"))))])`: {
			{0, "aaaa\nbc\nd\ne", cost(8, 4), same}, {3, "aaaa\nbc\nd\ne", cost(1, 4), same}, {5, "aaaa\nbc\nd\ne", cost(0, 4), same},
			{6, "aaaa\nbc d e", cost(0, 2), same}, {7, "aaaa\nbc d e", cost(0, 2), cost(0, 1)}, {10, "aaaa\nbc d e", cost(0, 2), cost(0, 1)}, {11, "aaaa bc d e", cost(0, 1), same},
		},
		// a rendered layout that has fewer lines than the best one, and more overflow
		`("aaaa"([(..)]("b"9<[(_"cccc")]>)))`: {
			{0, "aaaab cccc", cost(10, 1), cost(8, 3)}, {4, "aaaa\n\nb cccc", cost(2, 3), cost(7, 1)}, {5, "aaaa\n\nb cccc", cost(1, 3), cost(7, -1)},
			{6, "aaaa\n\nb cccc", cost(0, 3), cost(7, -1)}, {8, "aaaa\n\nb cccc", cost(0, 3), cost(5, -1)}, {9, "aaaa\n\nb cccc", cost(0, 3), cost(4, -1)}, {10, "aaaab cccc", cost(0, 1), same},
		},
		// a rendered layout that has as many lines as the best one, and more overflow
		`("aaaa"([.]("b"9<[(_"cccc")]>)))`: {
			{0, "aaaab cccc", cost(10, 1), cost(8, 2)}, {5, "aaaa\nb cccc", cost(1, 2), cost(7, 0)}, {8, "aaaa\nb cccc", cost(0, 2), cost(5, 0)}, {10, "aaaab cccc", cost(0, 1), same},
		},
	} {
		d := parsed(t, text)
		for _, s := range steps {
			checkBest(t, d, s.width)
			l, _ := impl.BestLayout(d, s.width)
			checkBestIs(t, d, s.width, l, s.cost, s.gap)
			if got := impl.LayoutText(l); got != s.best {
				t.Errorf("BestLayout(%s, %d) = %q, want %q", text, s.width, got, s.best)
			}
		}
		checkDocBest(t, d, 200, upTo(200)...)
	}
}

func TestKnownFirstGaps(t *testing.T) {
	for text, want := range map[string]int{
		"~": -1, "_": -1, "!": -1, `"a"`: -1, `("a"(_"b"))`: -1, `[("a"(!"b"))]`: -1, "[.]": -1, "[_]": -1, `["a"]`: -1,
		`[("a"(_"b"))]`:                           -1,
		`[("a"(_[("b"(_"c"))]))]`:                 -1,
		`([("a"(_"b"))][("c"(_"d"))])`:            -1,
		`("a"[.])`:                                0,
		`("a"9<[(."b")]>)`:                        0,
		`("aaaa"([(..)]("b"9<[(_"cccc")]>)))`:     0,
		`([("aaaa"(_"b"))][("c"(_("d"(_"e"))))])`: 7,
	} {
		checkFirstGap(t, parsed(t, text), want)
	}
	// The first group fits from n+3 bytes on, and then the second one does not.
	for n := 3; n <= 199; n++ {
		d := cat(group(cat(texts(n), cat(leaf(impl.OpLine), word("b")))), parsed(t, `[("c"(_("d"(_"e"))))]`))
		want := n + 3
		if want > 200 {
			want = -1
		}
		checkFirstGap(t, d, want)
		checkBest(t, d, min(n+2, 200), min(n+3, 200), 200)
	}
}

func TestKnownParetoLayouts(t *testing.T) {
	for text, want := range map[string][][]impl.Row{
		"~":                {lines("")},
		"_":                {lines("", "")},
		`("a"(!"b"))`:      {lines("a", "b")},
		`["a"]`:            {lines("a")},
		"[[~]]":            {lines("")},
		"[.]":              {lines("")},
		"[_]":              {lines(" "), lines("", "")},
		`[("a"(_"b"))]`:    {lines("a b"), lines("a", "b")},
		`("a"9<[(."b")]>)`: {lines("ab")},
		`("a"1<[(."b")]>)`: {lines("ab")},
		`("ab"[(."c")])`:   {lines("abc"), lines("ab", "c")},
		"(9<_>[.])":        {{row(0, ""), row(9, "")}},
		`[("aa"(_[("bb"(_"cc"))]))]`: {
			lines("aa bb cc"), lines("aa", "bb cc"), lines("aa", "bb", "cc"),
		},
		// neither one of two layouts of the same width and as many lines beats the other one
		`([("a"(_"b"))][("c"(_"d"))])`: {
			lines("a bc d"), lines("a bc", "d"), lines("a", "bc d"), lines("a", "bc", "d"),
		},
		`("aa"([.]("a"[.])))`: {lines("aaa"), lines("aa", "a")},
		// one with fewer lines and the same width, and one that is narrower with as many lines
		`("aaaaaa"([(_"b")][(_"c")]))`:        {lines("aaaaaa b c"), lines("aaaaaa", "b c")},
		`([("a"(_"bbbb"))]("cccccc"(_"d")))`:  {lines("a bbbbcccccc", "d"), lines("a", "bbbbcccccc", "d")},
		`("aaaa"([(..)]("b"9<[(_"cccc")]>)))`: {lines("aaaab cccc"), lines("aaaa", "", "b cccc")},
		// lines of spaces
		`(("a"!)([_]([_](!"bb"))))`: {lines("a", "  ", "bb")},
		`(("aaa"[_])([_](!"bb")))`:  {lines("aaa  ", "bb"), lines("aaa", " ", "bb")},
		// layouts that only the indentation of a line without text tells apart
		`("aa"([(2<.>.)]([(3<.>.)]"bb")))`: {
			lines("aabb"), {row(0, "aa"), row(3, ""), row(0, "bb")}, {row(0, "aa"), row(2, ""), row(0, "bb")},
		},
	} {
		list, ok := impl.ParetoLayouts(parsed(t, text))
		checkList(t, "ParetoLayouts("+text+")", list, ok, want)
		checkPareto(t, parsed(t, text))
	}
}

func TestShortDocsBest(t *testing.T) {
	for n, list := range docsByLength(9, "~_\"a[2") {
		for _, d := range list {
			checkDocBest(t, d, n+1, append(upTo(n+1), 200)...)
		}
	}
}

func TestJoinedDocsBest(t *testing.T) {
	all := choiceParts(t)
	for _, a := range all {
		for _, b := range all {
			for _, d := range []impl.Doc{cat(a, b), cat(word("ijkl"), cat(a, nest(9, b))), group(cat(a, nest(2, cat(b, group(a)))))} {
				checkDocBest(t, d, 60, append(upTo(60), 199, 200)...)
			}
		}
	}
}

// TestAnyDocsBest has gaps of each kind; there is none without more overflow but with fewer lines, as nothing costs less
// than the best layout.
func TestAnyDocsBest(t *testing.T) {
	for _, d := range append(toldDocs(anyDocs(40, 6)), anyRows(40, 6)...) {
		checkDocBest(t, d, 200, upTo(200)...)
	}
	kinds := map[impl.Cost]int{}
	for _, d := range append(toldDocs(anyDocs(300, 7)), anyRows(300, 7)...) {
		for _, gap := range checkBest(t, d, 0, 3, 7, 12, 20, 33, 60, 120, 200) {
			kinds[cost(min(gap.Over, 1), max(min(gap.Lines, 1), -1))]++
		}
		checkPareto(t, d)
	}
	for _, kind := range []impl.Cost{cost(0, 0), cost(0, 1), cost(1, -1), cost(1, 0), cost(1, 1)} {
		if kinds[kind] < 10 {
			t.Errorf("only %d gaps are of the kind %v", kinds[kind], kind)
		}
	}
	if len(kinds) != 5 {
		t.Errorf("there are gaps of other kinds: %v", kinds)
	}
}

// TestNothingCostsLess checks the promise with what the functions return of each other.
func TestNothingCostsLess(t *testing.T) {
	docs := append(choiceParts(t), toldDocs(anyDocs(300, 8))...)
	for _, d := range append(docs, product(cat(word("abc"), leaf(impl.OpLine)), 20, 15)) {
		for _, width := range []int{0, 1, 2, 4, 8, 16, 30, 64, 128, 199, 200} {
			best, _ := impl.BestLayout(d, width)
			least, _ := impl.BestCost(d, width)
			if c, ok := impl.CostOf(best, width); !ok || c != least || !impl.HasLayout(d, best) {
				t.Fatalf("BestLayout(%s, %d) = %s, which costs %v", textOf(d), width, show(best), c)
			}
			checkNotLess(t, d, width, best, least)
		}
	}
}

// checkNotLess checks that no layout in front of best costs as little, and none costs less.
func checkNotLess(t *testing.T, d impl.Doc, width int, best []impl.Row, least impl.Cost) {
	t.Helper()
	list, _ := impl.LayoutsOf(d)
	rendered, _ := impl.RenderDoc(d, width)
	bound := 1
	for _, l := range append(list, rendered) {
		if sameRows(l, best) {
			bound = 0
		}
		if c, ok := impl.CostOf(l, width); !ok || impl.CompareCosts(c, least) < bound {
			t.Fatalf("BestCost(%s, %d) = %v, but %s costs %v", textOf(d), width, least, show(l), c)
		}
	}
}

func TestBestOfManyLayouts(t *testing.T) {
	for _, bottom := range []impl.Doc{leaf(impl.OpLine), leaf(impl.OpEmpty), word("a"), cat(word("a"), nest(9, leaf(impl.OpBreak)))} {
		for _, d := range []impl.Doc{product(bottom, 23, 13), product(bottom, 20, 15), product(bottom, 3, 4, 5, 5), group(product(bottom, 23, 13)), nest(2, product(bottom, 15, 20))} {
			checkDocBest(t, d, 200, 0, 1, 2, 5, 9, 10, 18, 25, 37, 50, 199, 200)
		}
		for _, d := range []impl.Doc{group(product(bottom, 20, 15)), product(bottom, 18, 17), product(bottom, 7, 7, 7), product(bottom, 20, 20, 10, 25), product(bottom, 20, 20, 20, 13)} {
			checkNothingBest(t, textOf(d), d, append(otherWidths, 0, 1, 80, 200)...)
		}
	}
}

// TestBestOfManyOtherLayouts has documents with nearly MaxLayouts layouts, and with as many, no two of which are equal.
func TestBestOfManyOtherLayouts(t *testing.T) {
	many := word("a")
	for i := range 8 {
		many = cat(group(cat(word(letters(i+1)), nest(i, leaf(impl.OpLine+i%2)))), many)
	}
	chain := func(n int) impl.Doc {
		d := word("e")
		for i := range n {
			d = group(cat(word(letters(i+1)), cat(leaf(impl.OpLine), d)))
		}
		return d
	}
	for want, d := range map[int]impl.Doc{
		256: many,
		300: cat(chain(4), cat(nest(3, chain(4)), cat(chain(3), nest(9, chain(2))))),
	} {
		if n := len(eachOnce(choicesOf(d))); n != want || !impl.DocValid(d) {
			t.Fatalf("the test's document has %d layouts", n)
		}
		checkDocBest(t, d, 200, upTo(200)...)
	}
}

func TestGreatDocsBest(t *testing.T) {
	docs := greatChoiceDocs()
	docs["nests"] = cat(deep(36, group(cat(leaf(impl.OpBreak), word("a"))), layers()["nest"]), word("b"))
	for name, d := range docs {
		if !impl.DocValid(d) {
			t.Fatalf("%s: the test's document is not valid", name)
		}
		if len(toldDocs([]impl.Doc{d})) == 0 {
			checkNothingBest(t, name, d, 0, 200)
			continue
		}
		checkDocBest(t, d, 200, upTo(200)...)
	}
}

func TestBestInOtherWidths(t *testing.T) {
	for _, text := range []string{"~", "_", `["a"]`, `[("a"(_"b"))]`, "[!]", sample} {
		d := parsed(t, text)
		for _, width := range otherWidths {
			checkNoBest(t, text, d, width)
		}
		checkBest(t, d, 0, 1, 199, 200)
	}
}

func TestBestOfNoDocs(t *testing.T) {
	for name, d := range noDocs() {
		checkNothingBest(t, name, d, append(otherWidths, 0, 1, 80, 200)...)
	}
}
