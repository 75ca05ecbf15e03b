package tests

import (
	"fmt"
	"maps"
	"math/rand/v2"
	"slices"
	"strings"
	"testing"

	"loop.example/docalgebra/impl"
)

// TestKnownPairs has, for two documents a and b, the first layout that only a has, the one that only b has, and the
// first width in which they differ, or nothing and -1; and whether their open layouts are equal.
func TestKnownPairs(t *testing.T) {
	none := []impl.Row(nil)
	for _, c := range []struct {
		a, b         string
		onlyA, onlyB []impl.Row
		width        int
		open         bool
	}{
		{`[("a"(."b"))]`, `("a"(."b"))`, lines("ab"), none, 2, true},
		// equal in each way
		{`[("a"(."b"))]`, `[[("a"(."b"))]]`, none, none, -1, true},
		{"~", "(~~)", none, none, -1, true},
		{"~", `2<["a"]>`, lines(""), lines("a"), 0, false},
		{`"ab"`, `("a""b")`, none, none, -1, true},
		{"_", ".", none, none, -1, true}, {"_", "!", none, none, -1, true}, {"[!]", ".", none, none, -1, true},
		{"[_]", "[.]", lines(" "), lines(""), 0, true},
		// the same layouts, and other renderings
		{`([.](_"a"))`, `(_[(."a")])`, none, none, 0, true},
		{`("a"[([.].)])`, `("a"[(.[.])])`, none, none, 0, true},
		{`("aaa"([.](_"b")))`, `("aaa"(_[(."b")]))`, none, none, 1, true},
		{`("aa"([.](_"bbbb")))`, `("aa"(_[(."bbbb")]))`, none, none, 2, true},
		{`("aa"([.](_"bb")))`, `("aa"(_[(."bb")]))`, none, none, -1, true},
		{"2<([.]_)>", "2<(_[.])>", none, none, 0, true},
		// the same open layout, and others
		{`("a"[("b"_)])`, `[("a"("b"_))]`, none, none, -1, true},
		{`([("a"_)]"b")`, `("a"([_]"b"))`, none, none, -1, true},
		{`[(_[("a"(_"b"))])]`, `[(_("a"(_"b")))]`, lines("", "a b"), none, 3, true},
		{`[("aaaa"(_[("b"(_"c"))]))]`, `[("aaaa"(_("b"(_"c"))))]`, lines("aaaa", "b c"), none, 3, true},
		{`([_]([_]_))`, `(_(_[_]))`, lines("  ", ""), lines("", "", " "), 1, true},
		{`([_]_)`, `[(__)]`, lines(" ", ""), lines("  "), 1, true},
		// an empty line
		{"2<_>", "_", []impl.Row{{}, row(2, "")}, lines("", ""), 0, false},
		{`[2<("a"_)>]`, `[("a"_)]`, []impl.Row{row(0, "a"), row(2, "")}, lines("a", ""), 0, false},
		{`("a"2<(_3<(."b")>)>)`, `("a"3<(_2<(."b")>)>)`, []impl.Row{row(0, "a"), row(2, ""), row(5, "b")}, []impl.Row{row(0, "a"), row(3, ""), row(5, "b")}, 0, false},
		{`("a"(_(_"b")))`, `("a"(_"b"))`, lines("a", "", "b"), lines("a", "b"), 0, false},
		{`("a"(_[(_"b")]))`, `("a"(_(_"b")))`, lines("a", " b"), none, 2, true},
		{"(__)", "_", lines("", "", ""), lines("", ""), 0, false},
		{"(_[.])", "(_.)", lines("", ""), none, 0, true},
		// the same in some widths
		{`[("a"(_"b"))]`, `[("a"(."b"))]`, lines("a b"), lines("ab"), 2, true},
		{`[("abc".)]`, `"abc"`, lines("abc", ""), none, 0, false},
		{`("a"2<(_"b")>)`, `("a"(2<_>"b"))`, none, none, -1, true},
		{`[("a"2<(_"b")>)]`, `[("a"3<(_"b")>)]`, []impl.Row{row(0, "a"), row(2, "b")}, []impl.Row{row(0, "a"), row(3, "b")}, 0, false},
	} {
		checkKnownPair(t, c.a, c.b, c.onlyA, c.onlyB, c.width, c.open)
		checkKnownPair(t, c.b, c.a, c.onlyB, c.onlyA, c.width, c.open)
	}
}

func checkKnownPair(t *testing.T, textA, textB string, onlyA, onlyB []impl.Row, width int, open bool) {
	t.Helper()
	a, b := parsed(t, textA), parsed(t, textB)
	l, ok := impl.OnlyLayout(a, b)
	checkRows(t, fmt.Sprintf("OnlyLayout(%s, %s)", textA, textB), l, ok, onlyA)
	if got := impl.SameLayouts(a, b); got != (onlyA == nil && onlyB == nil) {
		t.Errorf("SameLayouts(%s, %s) = %v", textA, textB, got)
	}
	if got, ok := impl.FirstWidth(a, b); ok != (width >= 0) || got != max(width, 0) {
		t.Errorf("FirstWidth(%s, %s) = %d, %v, want %d", textA, textB, got, ok, width)
	}
	if impl.SameRenders(a, b) != (width < 0) || impl.SameOpen(a, b) != open {
		t.Errorf("SameRenders(%s, %s) = %v, SameOpen = %v", textA, textB, impl.SameRenders(a, b), impl.SameOpen(a, b))
	}
	checkPair(t, sideOf(a, 30), sideOf(b, 30))
}

func TestShortPairs(t *testing.T) {
	var sides []side
	for _, list := range docsByLength(6, "~_\"a[2") {
		for _, d := range list {
			sides = append(sides, sideOf(d, 8))
		}
	}
	for i, a := range sides {
		for _, b := range sides[i:] {
			checkPair(t, a, b)
		}
	}
}

// TestJoinedPairs has documents of a few parts in different orders and groups.
func TestJoinedPairs(t *testing.T) {
	parts := choiceParts(t)
	for i, a := range parts {
		for _, b := range parts[i:] {
			var sides []side
			for _, d := range []impl.Doc{cat(a, b), cat(b, a), cat(group(a), b), cat(a, group(b)), group(cat(a, b)), nest(2, cat(a, b)), cat(a, nest(2, b))} {
				sides = append(sides, sideOf(d, 30))
			}
			for k := range sides {
				for _, other := range sides[k:] {
					checkPair(t, sides[k], other)
				}
			}
		}
	}
}

// TestAnyPairs has documents, and the same ones with a few changes.
func TestAnyPairs(t *testing.T) {
	r := rand.New(rand.NewPCG(8, 8))
	for range 120 {
		d := anyDoc(r, 1+r.IntN(30), 12)
		sides := []side{sideOf(d, 200)}
		other := d
		for range 4 {
			if other = edited(r, other); !impl.DocValid(other) {
				break
			}
			sides = append(sides, sideOf(other, 200))
		}
		normal, _ := impl.NormalDoc(d)
		open, _ := impl.WithoutGroups(d)
		for _, other := range append(sides, sideOf(normal, 200), sideOf(open, 200)) {
			checkPair(t, sides[0], other)
		}
	}
}

// TestWitnesses looks only at what the functions say of each other.
func TestWitnesses(t *testing.T) {
	docs := append(anyDocs(30, 80), choiceParts(t)...)
	for _, a := range docs {
		for _, b := range docs {
			la, onlyA := impl.OnlyLayout(a, b)
			lb, onlyB := impl.OnlyLayout(b, a)
			_, toldA := impl.LayoutsOf(a)
			_, toldB := impl.LayoutsOf(b)
			if impl.SameLayouts(a, b) != (toldA && toldB && !onlyA && !onlyB) {
				t.Fatalf("SameLayouts(%s, %s) = %v, OnlyLayout = %v, %v", textOf(a), textOf(b), impl.SameLayouts(a, b), onlyA, onlyB)
			}
			if onlyA && (!impl.HasLayout(a, la) || impl.HasLayout(b, la)) || onlyB && (impl.HasLayout(a, lb) || !impl.HasLayout(b, lb)) {
				t.Fatalf("%s and %s: OnlyLayout = %s, %s", textOf(a), textOf(b), show(la), show(lb))
			}
			width, differ := impl.FirstWidth(a, b)
			first, _ := impl.RenderDoc(a, width)
			second, _ := impl.RenderDoc(b, width)
			if impl.SameRenders(a, b) == differ || sameRows(first, second) == differ {
				t.Fatalf("SameRenders(%s, %s) = %v, FirstWidth = %d, %v", textOf(a), textOf(b), impl.SameRenders(a, b), width, differ)
			}
		}
	}
}

// TestFirstWidths has documents that only differ from one width on, from the least one to beyond the greatest one.
func TestFirstWidths(t *testing.T) {
	for n := range 204 {
		a := group(leaf(impl.OpBreak))
		if n > 0 {
			a = flatGroup(n)
		}
		b := a.Kids[0]
		width, ok := impl.FirstWidth(a, b)
		if ok != (n <= 200) || ok && width != n || !ok && width != 0 || impl.SameRenders(a, b) == ok {
			t.Errorf("groups of %d: FirstWidth = %d, %v, SameRenders = %v", n, width, ok, impl.SameRenders(a, b))
		}
		if back, same := impl.FirstWidth(b, a); back != width || same != ok {
			t.Errorf("groups of %d: FirstWidth = %d, %v, and in the other order %d, %v", n, width, ok, back, same)
		}
		if l, ok := impl.OnlyLayout(a, b); !ok || len(l) != 1 || impl.LayoutWidth(l) != n || impl.SameLayouts(a, b) || !impl.SameOpen(a, b) {
			t.Errorf("groups of %d: OnlyLayout = %s, %v", n, show(l), ok)
		}
	}
}

// TestSameLayoutsOtherRenders has documents with the same layouts that only differ in the widths between two numbers.
func TestSameLayoutsOtherRenders(t *testing.T) {
	for _, most := range []int{0, 1, 2, 5, 30, 90, 199, 200, 201, 202, 210} {
		for less := max(0, most-3); less <= most; less++ {
			for _, pair := range [][2]int{{less, most}, {most, less}} {
				front, behind := texts(pair[0]), texts(pair[1])
				a := cat(front, cat(group(leaf(impl.OpBreak)), cat(leaf(impl.OpLine), behind)))
				b := cat(front, cat(leaf(impl.OpLine), group(cat(leaf(impl.OpBreak), behind))))
				differ := less < most && less <= 200
				width, ok := impl.FirstWidth(a, b)
				if ok != differ || ok && width != less || !ok && width != 0 || impl.SameRenders(a, b) == differ {
					t.Errorf("%v: FirstWidth = %d, %v, SameRenders = %v", pair, width, ok, impl.SameRenders(a, b))
				}
				if l, ok := impl.OnlyLayout(a, b); ok || len(l) > 0 || !impl.SameLayouts(a, b) || !impl.SameLayouts(b, a) {
					t.Errorf("%v: OnlyLayout = %s, %v", pair, show(l), ok)
				}
			}
		}
	}
}

// fill is so many letters, of which the first ones begin a line each, and the other ones follow in one; it has a layout
// for each number of first ones.
func fill(letters int) impl.Doc {
	d := leaf(impl.OpEmpty)
	for i := range letters {
		d = group(cat(leaf(impl.OpBreak), cat(word(string(rune('a'+i))), d)))
	}
	return d
}

// TestManyLayouts has documents with 300 layouts, all of them distinct, and with one more.
func TestManyLayouts(t *testing.T) {
	great := func(last impl.Doc) impl.Doc { return cat(fill(4), cat(fill(4), cat(fill(3), last))) }
	d := great(fill(2))
	if list, ok := impl.DistinctLayouts(d); !ok || len(list) != 300 {
		t.Fatalf("%d distinct layouts, %v", len(list), ok)
	}
	a := sideOf(d, 20)
	checkPair(t, a, a)
	for _, last := range []impl.Doc{
		group(fill(2)), group(fill(1)), fill(1), fill(3), fill(2).Kids[0], cat(fill(1), fill(1)), nest(1, fill(2)), leaf(impl.OpEmpty),
		group(cat(leaf(impl.OpLine), fill(2).Kids[0].Kids[1])), group(cat(leaf(impl.OpBreak), cat(word("b"), fill(1).Kids[0]))),
	} {
		checkPair(t, a, sideOf(great(last), 20))
	}
	for _, other := range []impl.Doc{fill(4), leaf(impl.OpEmpty), word("abc"), cat(fill(2), fill(4)), group(great(fill(1)))} {
		checkPair(t, a, sideOf(other, 20))
	}
}

// TestTooManyLayouts has documents of which one has too many layouts, though each one has the same ones.
func TestTooManyLayouts(t *testing.T) {
	bottom := cat(word("a"), leaf(impl.OpBreak))
	full := product(bottom, 20, 15)
	for name, c := range map[string]struct {
		d    impl.Doc
		told bool
	}{
		"16":     {product(bottom, 4, 4), true},
		"300":    {full, true},
		"301":    {group(full), false},
		"302":    {groups(2, full), false},
		"400":    {product(bottom, 20, 20), false},
		"100000": {product(bottom, 10, 10, 10, 10, 10), false},
		"100001": {group(product(bottom, 10, 10, 10, 10, 10)), false},
	} {
		a, other := sideOf(c.d, 30), sideOf(full, 30)
		checkPair(t, a, a)
		checkPair(t, a, other)
		checkPair(t, a, sideOf(bottom, 30))
		if impl.SameLayouts(c.d, c.d) != c.told || !impl.SameRenders(c.d, c.d) || !impl.SameOpen(c.d, c.d) {
			t.Errorf("%s: SameLayouts = %v, SameRenders = %v, SameOpen = %v", name, impl.SameLayouts(c.d, c.d), impl.SameRenders(c.d, c.d), impl.SameOpen(c.d, c.d))
		}
		if l, ok := impl.OnlyLayout(c.d, word("b")); ok != c.told {
			t.Errorf("%s: OnlyLayout = %s, %v", name, show(l), ok)
		}
		if l, ok := impl.OnlyLayout(word("b"), c.d); ok != c.told {
			t.Errorf("%s: OnlyLayout of the other one = %s, %v", name, show(l), ok)
		}
	}
}

// TestGreatPairs has documents with as many nodes and levels as there can be.
func TestGreatPairs(t *testing.T) {
	var sides []side
	for _, name := range slices.Sorted(maps.Keys(greatChoiceDocs())) {
		sides = append(sides, sideOf(greatChoiceDocs()[name], 200))
	}
	for i, a := range sides {
		for _, b := range sides[i:] {
			checkPair(t, a, b)
		}
		checkGroupless(t, a.doc)
	}
}

func TestNoPairs(t *testing.T) {
	valid, others := parsed(t, `[("a"(_"b"))]`), noDocs()
	for name, d := range others {
		checkNoPair(t, name, d, d)
		checkNoPair(t, name+", valid", d, valid)
		checkNoPair(t, "valid, "+name, valid, d)
		for _, other := range []string{"zero", "capital", "81 nodes", "41 deep"} {
			checkNoPair(t, name+", "+other, d, others[other])
			checkNoPair(t, other+", "+name, others[other], d)
		}
	}
}

func TestKnownWithoutGroups(t *testing.T) {
	for text, want := range map[string]string{
		"~": "~", "_": "_", "!": "!", `"a"`: `"a"`, "(_.)": "(_.)", "2<_>": "2<_>", "0<~>": "0<~>", `("[a]"_)`: `("[a]"_)`,
		"[~]": "~", "[!]": "!", "[[_]]": "_", "[[[.]]]": ".", `["[]"]`: `"[]"`,
		`[("a"2<[_]>)]`: `("a"2<_>)`, "[3<[4<[_]>]>]": "3<4<_>>", "([_][.])": "(_.)", "[([_][[!]])]": "(_!)",
		`([("a"_)]["b"])`: `(("a"_)"b")`, `("a"[("b"[("c"[_])])])`: `("a"("b"("c"_)))`, "[(([~]~)[(~~)])]": "((~~)(~~))",
	} {
		d := parsed(t, text)
		got, ok := impl.WithoutGroups(d)
		checkChanged(t, "WithoutGroups", d, got, ok, want)
		checkGroupless(t, d)
	}
}

func TestAnyWithoutGroups(t *testing.T) {
	docs := append(anyDocs(400, 81), slices.Concat(docsByLength(9, "~_\"a[2")...)...)
	for _, around := range layers() {
		docs = append(docs, deep(39, leaf(impl.OpLine), around), group(deep(38, leaf(impl.OpLine), around)), deep(38, group(word("a")), around))
	}
	for _, d := range append(docs, wide(80), group(wide(79)), balanced(20, groups(2, word("a"))), groups(39, leaf(impl.OpHard))) {
		if impl.DocValid(d) {
			checkGroupless(t, d)
		}
	}
}

func TestNoneWithoutGroups(t *testing.T) {
	docs := noDocs()
	// These are not valid, but they would be without groups.
	docs["41 groups"] = groups(40, word("a"))
	docs["81 nodes with a group"] = group(wide(80))
	docs["group of two"] = impl.Doc{Op: impl.OpGroup, Kids: []impl.Doc{word("a"), word("b")}}
	docs["group with Text"] = impl.Doc{Op: impl.OpGroup, Text: "a", Kids: []impl.Doc{word("a")}}
	docs["group with N in nest"] = nest(2, impl.Doc{Op: impl.OpGroup, N: 2, Kids: []impl.Doc{word("a")}})
	docs["group of none"] = impl.Doc{Op: impl.OpGroup}
	for name, d := range docs {
		if got, ok := impl.WithoutGroups(d); ok || !isZeroDoc(got) {
			t.Errorf("%s: WithoutGroups = %v, %v", name, got, ok)
		}
	}
}

func TestKnownLayoutDocs(t *testing.T) {
	for _, c := range []struct {
		l    []impl.Row
		want string
	}{
		{[]impl.Row{row(0, "abcdefghijklmn"), row(11, ""), row(2, "x")}, `("abcdefghijkl"("mn"(2<9<!>>(2<!>"x"))))`},
		// one part, and none
		{lines(""), "~"}, {lines("a"), `"a"`}, {lines("abcdefghijkl"), `"abcdefghijkl"`}, {lines("", ""), "!"},
		{[]impl.Row{{}, row(1, "")}, "1<!>"}, {[]impl.Row{{}, row(9, "")}, "9<!>"}, {[]impl.Row{{}, row(10, "")}, "1<9<!>>"},
		{[]impl.Row{{}, row(18, "")}, "9<9<!>>"}, {[]impl.Row{{}, row(20, "")}, "2<9<9<!>>>"},
		// texts
		{lines("abcdefghijklm"), `("abcdefghijkl""m")`}, {lines("abcdefghijklmnopqrstuvwx"), `("abcdefghijkl""mnopqrstuvwx")`},
		{lines("abcdefghijklmnopqrstuvwxy"), `("abcdefghijkl"("mnopqrstuvwx""y"))`},
		{lines("()[]{}:,=09"), `"()[]{}:,=09"`}, {lines("((((((((((((", "]"), `("(((((((((((("(!"]"))`},
		// lines
		{lines("a", "b"), `("a"(!"b"))`}, {lines("a", ""), `("a"!)`}, {lines("", "b"), `(!"b")`}, {lines("", "", ""), "(!!)"},
		{lines("a", "", "b"), `("a"(!(!"b")))`}, {lines("abcdefghijklm", "nop"), `("abcdefghijkl"("m"(!"nop")))`},
		{[]impl.Row{row(0, "a"), row(2, "b"), row(4, "c")}, `("a"(2<!>("b"(4<!>"c"))))`},
		{[]impl.Row{row(0, "a"), row(7, ""), row(0, "b"), row(13, "")}, `("a"(7<!>(!("b"4<9<!>>))))`},
		{[]impl.Row{{}, row(3, "abcdefghijklm"), row(3, "")}, `(3<!>("abcdefghijkl"("m"3<!>)))`},
	} {
		d, ok := impl.LayoutDoc(c.l)
		if !ok || textOf(d) != c.want {
			t.Errorf("LayoutDoc(%s) = %s, %v, want %s", show(c.l), textOf(d), ok, c.want)
		}
		checkLayoutDoc(t, c.l)
	}
}

// signs is a text of n bytes of all kinds.
func signs(n int) string {
	return strings.Repeat("abcdefghijklmnopqrstuvwxyz0123456789,:={}()[]", n/45+1)[:n]
}

// TestLayoutDocTexts has texts of all lengths in each one of some lines.
func TestLayoutDocTexts(t *testing.T) {
	for n := range 500 {
		checkLayoutDoc(t, lines(signs(n)))
		checkLayoutDoc(t, lines(signs(n), ""))
		checkLayoutDoc(t, []impl.Row{row(0, signs(n%37)), row(n%20, signs(n)), row(5, "a")})
		if d, ok := impl.LayoutDoc(lines(signs(n))); ok != (n <= 480) || ok && impl.DocSize(d) != max(1, 2*((n+11)/12)-1) {
			t.Errorf("LayoutDoc of %d bytes has %d nodes, %v", n, impl.DocSize(d), ok)
		}
	}
}

// TestLayoutDocIndents has each Indent that a line can have, and more.
func TestLayoutDocIndents(t *testing.T) {
	for n := -1; n <= 402; n++ {
		checkLayoutDoc(t, []impl.Row{{}, row(n, "")})
		checkLayoutDoc(t, []impl.Row{row(0, "a"), row(n, "b")})
		checkLayoutDoc(t, []impl.Row{row(0, "a"), row(3, ""), row(n, ""), row(1, "")})
		if d, ok := impl.LayoutDoc([]impl.Row{{}, row(n, "")}); ok != (n >= 0 && n <= 351) || ok && impl.DocSize(d) != (n+8)/9+1 {
			t.Errorf("LayoutDoc of an Indent of %d has %d nodes, %v", n, impl.DocSize(d), ok)
		}
	}
}

// newlines is a layout of an empty line and so many other ones, the last one with another Indent.
func newlines(n, indent, last int) []impl.Row {
	l := []impl.Row{{}}
	for range n - 1 {
		l = append(l, row(indent, ""))
	}
	return append(l, row(last, ""))
}

// TestLayoutDocsAtLimits has layouts whose documents have so many nodes and levels; 0 if they have none.
func TestLayoutDocsAtLimits(t *testing.T) {
	for name, c := range map[string]struct {
		l           []impl.Row
		nodes, deep int
	}{
		"40 texts":              {lines(signs(480)), 79, 40},
		"41 texts":              {lines(signs(481)), 0, 0},
		"40 newlines":           {newlines(40, 0, 0), 79, 40},
		"40 and a nest":         {newlines(40, 0, 1), 0, 0},
		"41 newlines":           {newlines(41, 0, 0), 0, 0},
		"40 of both":            {append(newlines(20, 0, 0), row(0, signs(229))), 0, 0},
		"39 of both":            {append(newlines(20, 0, 0), row(0, signs(216))), 77, 39},
		"40 parts of both":      {append(newlines(20, 0, 0), row(0, signs(217))), 79, 40},
		"80 nodes":              {newlines(20, 10, 19), 80, 23},
		"81 nodes":              {newlines(20, 19, 10), 0, 0},
		"81 nodes, one more":    {newlines(20, 10, 28), 0, 0},
		"79 nodes, 27 newlines": {newlines(27, 1, 0), 79, 28},
		"80, and one nest more": {newlines(27, 9, 9), 80, 28},
		"81, and two nests":     {newlines(27, 9, 10), 0, 0},
		"39 and a nest":         {newlines(39, 0, 9), 78, 40},
		"39 and two nests":      {newlines(39, 0, 10), 0, 0},
		"38 and two nests":      {newlines(38, 0, 18), 77, 40},
		"38 and three nests":    {newlines(38, 0, 19), 0, 0},
		"39 nests":              {newlines(1, 0, 351), 40, 40},
		"40 nests":              {newlines(1, 0, 352), 0, 0},
		"45 nests":              {newlines(1, 0, 400), 0, 0},
		"100 texts":             {lines(signs(1200)), 0, 0},
		"101 texts":             {lines(signs(1201)), 0, 0},
		"100 newlines":          {newlines(100, 0, 0), 0, 0},
		"101 newlines":          {newlines(101, 0, 0), 0, 0},
		"200 lines":             {manyLines(200), 0, 0},
		"long Text":             {lines(signs(1999)), 0, 0},
		"200 long lines":        {slices.Repeat(lines(signs(1999)), 200), 0, 0},
	} {
		d, ok := impl.LayoutDoc(c.l)
		if ok != (c.nodes > 0) || ok && (impl.DocSize(d) != c.nodes || deepness(d) != c.deep) {
			t.Errorf("%s: LayoutDoc has %d nodes, %d deep, %v", name, impl.DocSize(d), deepness(d), ok)
		}
		checkLayoutDoc(t, c.l)
	}
}

func TestLayoutDocsOfDocs(t *testing.T) {
	docs := append(slices.Concat(docsByLength(8, "~_\"a[2")...), anyDocs(300, 82)...)
	for _, d := range docs {
		checkLayoutDoc(t, laidOut(d))
		if choiceCount(d) > 300 {
			continue
		}
		for _, l := range eachOnce(choicesOf(d)) {
			checkLayoutDoc(t, l)
		}
	}
	for _, l := range layoutSamples() {
		checkLayoutDoc(t, l)
	}
}

func TestAnyLayoutDocs(t *testing.T) {
	r := rand.New(rand.NewPCG(8, 83))
	for range 2000 {
		l := lines(signs(r.IntN(40)))
		for range r.IntN(12) {
			l = append(l, row(r.IntN(40)*r.IntN(2), signs(r.IntN(40)*r.IntN(2))))
		}
		checkLayoutDoc(t, l)
	}
}

func TestNoLayoutDocs(t *testing.T) {
	lists := noLayouts()
	for _, s := range []string{" ", "  ", "a ", " a", "a b", "abcdefghijkl ", " bcdefghijkl", "abcdefghijkl m", "abcdefghijklmnopqrstuvwx y"} {
		lists["space in "+s] = lines(s)
		lists["space in the last line "+s] = []impl.Row{row(0, "a"), {}, row(4, s)}
		lists["space in between "+s] = []impl.Row{{}, row(10, s), row(0, "b")}
	}
	for name, l := range lists {
		if d, ok := impl.LayoutDoc(l); ok || !isZeroDoc(d) {
			t.Errorf("%s: LayoutDoc = %v, %v", name, d, ok)
		}
		checkLayoutDoc(t, l)
	}
}
