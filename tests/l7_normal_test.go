package tests

import (
	"fmt"
	"strings"
	"testing"

	"loop.example/docalgebra/impl"
)

// checkKnown checks what a function makes of the documents of some texts, and the tests' own way too.
func checkKnown(t *testing.T, what string, call func(impl.Doc) (impl.Doc, bool), known map[string]string) {
	t.Helper()
	for text, want := range known {
		d := parsed(t, text)
		got, ok := call(d)
		checkChanged(t, what, d, got, ok, want)
		checkNormal(t, d)
	}
}

func TestKnownDropEmpty(t *testing.T) {
	checkKnown(t, "DropEmpty", impl.DropEmpty, map[string]string{
		"~": "~", "_": "_", ".": ".", "!": "!", `"a"`: `"a"`,
		// one of two, and both
		`(~"a")`: `"a"`, `("a"~)`: `"a"`, "(~~)": "~", "(_!)": "(_!)",
		`(("a"~)(~_))`: `("a"_)`, "((~~)(~~))": "~", "((~~)_)": "_", "(_(~~))": "_",
		`("a"(~"b"))`: `("a""b")`, `(("a"~)"b")`: `("a""b")`,
		// around an empty one
		"2<~>": "~", "0<~>": "~", "[~]": "~", "[2<[~]>]": "~", "9<[(~~)]>": "~",
		"(~[(~2<~>)])": "~", `("a"[(~2<~>)])`: `"a"`, "([~](3<~>.))": ".",
		// what is around others stays
		"2<_>": "2<_>", "0<_>": "0<_>", `0<"a">`: `0<"a">`, `["a"]`: `["a"]`, "[[_]]": "[[_]]", "2<(~_)>": "2<_>",
		"[(~_)]": "[_]", `([("a"~)]2<(~3<"b">)>)`: `(["a"]2<3<"b">>)`, "((~_)(.~))": "(_.)",
	})
}

func TestKnownPushNest(t *testing.T) {
	checkKnown(t, "PushNest", impl.PushNest, map[string]string{
		"~": "~", "_": "_", ".": ".", "!": "!", `"a"`: `"a"`,
		// nests without newlines
		"2<~>": "~", `2<"a">`: `"a"`, "9<9<[~]>>": "[~]", `(2<"a">3<~>)`: `("a"~)`,
		// one nest
		"2<_>": "2<_>", "1<.>": "1<.>", "9<!>": "9<!>", `2<("a"_)>`: `("a"2<_>)`, "2<[_]>": "[2<_>]",
		"2<(_(.!))>": "(2<_>(2<.>2<!>))", "(2<_>_)": "(2<_>_)", "(_3<.>)": "(_3<.>)",
		// sums
		"0<_>": "_", "0<0<!>>": "!", "0<2<_>>": "2<_>", "2<0<_>>": "2<_>", "1<1<_>>": "2<_>", "3<2<1<_>>>": "6<_>",
		"4<5<_>>": "9<_>", "0<9<_>>": "9<_>", "9<0<.>>": "9<.>", "4<(_5<.>)>": "(4<_>9<.>)",
		`2<("a"[(_3<.>)])>`: `("a"[(2<_>5<.>)])`, `2<[3<("a"[4<_>])>]>`: `[("a"[9<_>])]`,
		// an indentation that needs several nests
		"9<1<_>>": "1<9<_>>", "1<9<_>>": "1<9<_>>", "5<5<_>>": "1<9<_>>", "9<5<.>>": "5<9<.>>", "5<9<.>>": "5<9<.>>",
		"9<9<!>>": "9<9<!>>", "9<8<_>>": "8<9<_>>", "6<6<6<_>>>": "9<9<_>>", "9<9<1<_>>>": "1<9<9<_>>>",
		"1<9<(9<_>.)>>": "(1<9<9<_>>>1<9<.>>)", "9<(_[1<(.9<!>)>])>": "(9<_>[(1<9<.>>1<9<9<!>>>)])",
		// nothing else is changed
		`((~"a")["b"])`: `((~"a")["b"])`, "[[(~!)]]": "[[(~!)]]", "((_.)(!_))": "((_.)(!_))",
	})
}

func TestKnownDropGroups(t *testing.T) {
	checkKnown(t, "DropGroups", impl.DropGroups, map[string]string{
		"~": "~", "_": "_", "!": "!", `"a"`: `"a"`,
		// without a newline
		"[~]": "~", `["a"]`: `"a"`, `[["a"]]`: `"a"`, `[[["a"]]]`: `"a"`, `[2<"a">]`: `2<"a">`,
		`[("a"(~["b"]))]`: `("a"(~"b"))`, "(_[~])": "(_~)", `(["a"]_)`: `("a"_)`,
		// with one that can be flattened
		"[_]": "[_]", "[.]": "[.]", "[2<_>]": "[2<_>]", "[(~(~.))]": "[(~(~.))]", `([_][("a".)])`: `([_][("a".)])`,
		// with one that has to stay
		"[!]": "!", `[("a"!)]`: `("a"!)`, "[(_!)]": "(_!)", "[([_]!)]": "([_]!)", "[([.][(_!)])]": "([.](_!))",
		"[2<[(!_)]>]": "2<(!_)>", "[(![[_]])]": "(![_])", "([!][_])": "(![_])",
		// of a group
		"[[_]]": "[_]", "[[[_]]]": "[_]", "[[[[.]]]]": "[.]", `[[("a"_)]]`: `[("a"_)]`, "[[[(_[[.]])]]]": "[(_[.])]",
		`[([_]["a"])]`: `[([_]"a")]`, "[[!]]": "!",
		// of a group in something else
		"[2<[_]>]": "[2<[_]>]", "[(~[_])]": "[(~[_])]", "[([_]~)]": "[([_]~)]", "[0<[_]>]": "[0<[_]>]",
	})
}

func TestKnownTurnRight(t *testing.T) {
	checkKnown(t, "TurnRight", impl.TurnRight, map[string]string{
		"~": "~", "!": "!", `"a"`: `"a"`, "(_.)": "(_.)",
		"(_(.!))": "(_(.!))", "((_.)!)": "(_(.!))", "((_.)(!~))": "(_(.(!~)))", "(((_.)!)~)": "(_(.(!~)))",
		"(_((.!)~))": "(_(.(!~)))", "((_(.!))~)": "(_(.(!~)))", "(((_.)(!~))((._)(~!)))": "(_(.(!(~(.(_(~!)))))))",
		// rows in parts of others
		"[((_.)!)]": "[(_(.!))]", "2<((_.)!)>": "2<(_(.!))>", "([((_.)!)]~)": "([(_(.!))]~)", "(~[((_.)!)])": "(~[(_(.!))])",
		"((_[((.!)~)]).)": "(_([(.(!~))].))", "[2<((3<((_.)!)>~)_)>]": "[2<(3<(_(.!))>(~_))>]",
		`((("a"_)"b")[((."c").)])`: `("a"(_("b"[(.("c".))])))`,
		// nothing else is changed
		`(("a""b")"c")`: `("a"("b""c"))`, "((~~)~)": "(~(~~))", "[[0<~>]]": "[[0<~>]]",
	})
}

func TestKnownFuseText(t *testing.T) {
	checkKnown(t, "FuseText", impl.FuseText, map[string]string{
		"~": "~", "!": "!", `"a"`: `"a"`, "((_.)!)": "(_(.!))",
		// rows of texts
		`("a""b")`: `"ab"`, `("a"("b""c"))`: `"abc"`, `(("a""b")"c")`: `"abc"`, `(("a""b")("c""d"))`: `"abcd"`,
		`("b""a")`: `"ba"`, `("a""a")`: `"aa"`, `("(""[")`: `"(["`,
		// texts in rows
		`("a"("b"_))`: `("ab"_)`, `(("a""b")_)`: `("ab"_)`, `(_("a""b"))`: `(_"ab")`, `((_"a")"b")`: `(_"ab")`,
		`(("a"_)"b")`: `("a"(_"b"))`, `(("a"_)("b""c"))`: `("a"(_"bc"))`, `((("a""b")_)("c""d"))`: `("ab"(_"cd"))`,
		`("a"(~"b"))`: `("a"(~"b"))`, `(("a"~)("b""c"))`: `("a"(~"bc"))`, `("a"(_("b"(."c"))))`: `("a"(_("b"(."c"))))`,
		// texts in other documents
		`["a"]`: `["a"]`, `[("a""b")]`: `["ab"]`, `2<("a""b")>`: `2<"ab">`, `("a"["b"])`: `("a"["b"])`, `(["a"]"b")`: `(["a"]"b")`,
		`(["a"]["b"])`: `(["a"]["b"])`, `(("a"["b"])"c")`: `("a"(["b"]"c"))`, `("a"0<"b">)`: `("a"0<"b">)`,
		`("a"[("b""c")])`: `("a"["bc"])`, `([("a""b")]2<(("c""d")_)>)`: `(["ab"]2<("cd"_)>)`,
		// that are too long together
		`("abcdefgh""ijkl")`: `"abcdefghijkl"`, `("abcdefgh""ijklm")`: `("abcdefgh""ijklm")`,
		`("abcdefghijkl""m")`: `("abcdefghijkl""m")`, `("a""bcdefghijklm")`: `("a""bcdefghijklm")`,
		`("abcdef"("ghijkl""m"))`: `("abcdefghijkl""m")`, `("a"("bcdefghijklm""n"))`: `("a"("bcdefghijklm""n"))`,
		`(("abcdefgh""ijk")("l""m"))`:    `("abcdefghijkl""m")`,
		`("aaaaaaaa"("bbbbbbbb""cccc"))`: `("aaaaaaaa""bbbbbbbbcccc")`, `("aaaa"("bbbbbbbb""cccc"))`: `("aaaabbbbbbbb""cccc")`,
		`(("aaaa""bbbbbbbb")("cccc""dddddddd"))`:         `("aaaabbbbbbbb""ccccdddddddd")`,
		`("aaaaaaa"("bbbbbb"("ccccccc""ddddd")))`:        `("aaaaaaa"("bbbbbb""cccccccddddd"))`,
		`("aaaaaaaa"("bbbbbbbb"(_("cccc"("dddd""e")))))`: `("aaaaaaaa"("bbbbbbbb"(_"ccccdddde")))`,
		`("aaaaaaaa"("bbbbb""c"))`:                       `("aaaaaaaa""bbbbbc")`,
	})
}

// TestKnownNormalDocs has documents that only several functions in their order bring to the normal form.
func TestKnownNormalDocs(t *testing.T) {
	checkKnown(t, "NormalDoc", impl.NormalDoc, map[string]string{
		"~": "~", "_": "_", `"a"`: `"a"`, "(~~)": "~", `2<(("a""b")[~])>`: `"ab"`,
		`2<((~"a")("b"[_]))>`: `("ab"[2<_>])`, `[[("a"_)]]`: `[("a"_)]`, `["a"]`: `"a"`, `[["a"]]`: `"a"`,
		`[("a"!)]`: `("a"!)`, "9<9<_>>": "9<9<_>>", "9<5<.>>": "5<9<.>>", "2<~>": "~", "0<_>": "_",
		`[[("a"(_2<[("bb"(."c"))]>))]]`: `[("a"(_[("bb"(2<.>"c"))]))]`,
		// groups that only come together without an empty one or a nest
		"[(~[_])]": "[_]", "[([_]2<~>)]": "[_]", "[2<[_]>]": "[2<_>]", "[3<[(~2<[.]>)]>]": "[5<.>]",
		// texts that only come together without an empty one, a nest or a group
		`("a"(~"b"))`: `"ab"`, `("a"2<"b">)`: `"ab"`, `("a"["b"])`: `"ab"`, `(["a"]["b"])`: `"ab"`, `("a"[("b"_)])`: `("a"[("b"_)])`,
		`(("a"[(2<~>"b")])(3<("c"[~])>_))`: `("abc"_)`, `(["a"][("b"!)])`: `("ab"!)`, `[("a"("b"_))]`: `[("ab"_)]`,
		`("aaaaaaaa"([~]("bbbb"["c"])))`: `("aaaaaaaabbbb""c")`,
		// rows of which one part is left
		`([~]2<("a"~)>)`: `"a"`, "2<(~([(_~)]~))>": "[2<_>]", `[("a"("b"~))]`: `"ab"`,
	})
}

// TestKnownNotNormal has documents that a single function changes, and what is left of them.
func TestKnownNotNormal(t *testing.T) {
	for text, want := range map[string]string{
		`(~"a")`: `"a"`, "[~]": "~", "2<~>": "~",
		`2<"a">`: `"a"`, "0<_>": "_", "4<5<_>>": "9<_>", "9<1<_>>": "1<9<_>>", "2<(_.)>": "(2<_>2<.>)", "2<[_]>": "[2<_>]",
		`["a"]`: `"a"`, "[!]": "!", "[[_]]": "[_]", `("a"["b"])`: `"ab"`,
		"((_.)!)": "(_(.!))", "[((_.)_)]": "[(_(._))]", `("a""b")`: `"ab"`, `(_("a""b"))`: `(_"ab")`,
		`("aaaaaaaa"("bbbb""c"))`: `("aaaaaaaabbbb""c")`,
	} {
		d, normal := parsed(t, text), parsed(t, want)
		if impl.IsNormal(d) || !impl.IsNormal(normal) {
			t.Errorf("IsNormal(%s) = %v, IsNormal(%s) = %v", text, impl.IsNormal(d), want, impl.IsNormal(normal))
		}
		checkNormal(t, d)
		checkNormal(t, normal)
		checkRendersAlike(t, d, upTo(30)...)
	}
}

// TestNestSums has each sum of N up to one that needs five nests.
func TestNestSums(t *testing.T) {
	for sum := range 42 {
		want := "_"
		for left := sum; left > 0; left -= 9 {
			want = fmt.Sprintf("%d<%s>", min(left, 9), want)
		}
		for first := range min(sum, 9) + 1 {
			d := nest(first, nests(sum-first, leaf(impl.OpLine)))
			got, ok := impl.PushNest(d)
			checkChanged(t, "PushNest", d, got, ok, want)
			got, ok = impl.NormalDoc(d)
			checkChanged(t, "NormalDoc", d, got, ok, want)
			checkNormal(t, d)
			checkRendersAlike(t, cat(d, word("a")), 0, 200)
		}
		if d := parsed(t, want); !impl.IsNormal(d) {
			t.Errorf("%s is not normal", want)
		}
	}
}

// TestTextLengths has two texts, and a third one behind them, of all lengths.
func TestTextLengths(t *testing.T) {
	for a := 1; a <= 12; a++ {
		for b := 1; b <= 12; b++ {
			first, second := strings.Repeat("a", a), strings.Repeat("b", b)
			want := fmt.Sprintf(`("%s""%s")`, first, second)
			if a+b <= 12 {
				want = fmt.Sprintf(`"%s%s"`, first, second)
			}
			d := cat(word(first), word(second))
			got, ok := impl.FuseText(d)
			checkChanged(t, "FuseText", d, got, ok, want)
			for c := 1; c <= 12; c++ {
				checkNormal(t, cat(d, word(strings.Repeat("c", c))))
				checkNormal(t, cat(word(first), cat(word(second), word(strings.Repeat("c", c)))))
			}
		}
	}
}

func TestShortDocsNormal(t *testing.T) {
	for _, list := range docsByLength(10, "~_\"a[2") {
		for _, d := range list {
			checkNormal(t, d)
		}
	}
	for _, list := range docsByLength(8, "~_\"a[2") {
		for _, d := range list {
			checkRendersAlike(t, d, 0, 1, 2, 3, 4, 200)
		}
	}
}

// TestJoinedDocsNormal has documents whose parts come together at their edges.
func TestJoinedDocsNormal(t *testing.T) {
	parts := choiceParts(t)
	for _, a := range parts {
		for _, b := range parts {
			for _, d := range []impl.Doc{cat(a, b), group(cat(a, nest(2, b))), nest(8, cat(group(a), b)), cat(cat(a, word("abcdefgh")), b)} {
				checkNormal(t, d)
			}
		}
	}
}

func TestAnyDocsNormal(t *testing.T) {
	for _, d := range anyDocs(600, 20) {
		checkNormal(t, d)
	}
	for _, d := range anyDocs(60, 21) {
		checkRendersAlike(t, d, upTo(200)...)
	}
	for _, d := range anyDocs(400, 22) {
		checkRendersAlike(t, d, 0, 5, 13, 20, 45, 90, 200)
	}
}

// TestResultsAtLimits has documents with results that are just valid, and others with a node or a level more. valid has
// the functions with a valid result, in the order of passes.
func TestResultsAtLimits(t *testing.T) {
	full, line, ab := word("abcdefghijkl"), leaf(impl.OpLine), cat(word("a"), word("b"))
	for name, c := range map[string]struct {
		d     impl.Doc
		valid string
	}{
		// nests for each newline
		"80 nodes":        {nest(9, balanced(27, line)), "EPGTFN"},
		"81 nodes":        {nest(9, group(balanced(27, line))), "EGTF"},
		"82 nodes":        {nest(1, cat(balanced(27, line), full)), "EGTF"},
		"80, of two each": {nests(10, group(balanced(20, line))), "EPGTFN"},
		"82, of two each": {nests(10, cat(group(balanced(20, line)), full)), "EGTF"},
		"none for texts":  {nest(9, balanced(39, full)), "EPGTFN"},
		"none of 0":       {nest(0, balanced(39, line)), "EPGTFN"},
		// too many nodes in between
		"empty part":         {nest(9, cat(leaf(impl.OpEmpty), balanced(27, line))), "EGTFN"},
		"hard group":         {nest(9, group(balanced(27, leaf(impl.OpHard)))), "EGTFN"},
		"group of a group":   {nests(18, group(group(balanced(20, line)))), "EGTFN"},
		"plain groups":       {cat(group(group(full)), nest(9, balanced(26, line))), "EGTFN"},
		"joined texts":       {nest(9, cat(ab, balanced(26, line))), "EGTFN"},
		"one pair, 80 nodes": {nest(9, group(cat(ab, balanced(26, line)))), "EGTFN"},
		"one pair, 81 nodes": {nest(9, group(cat(ab, cat(group(line), balanced(25, line))))), "EGTF"},
		// parts one below the other
		"40 deep":            {balanced(40, full), "EPGTFN"},
		"40 deep in group":   {group(cat(balanced(38, full), line)), "EPGTFN"},
		"41 deep in group":   {group(cat(balanced(39, full), line)), "EPG"},
		"40 deep at the end": {cat(balanced(38, full), group(line)), "EPGTFN"},
		"41 deep at the end": {cat(balanced(38, full), group(nest(9, line))), "EPG"},
		"41 deep in nest":    {nest(2, cat(balanced(39, full), line)), "EPG"},
		"two nests pushed":   {nests(18, cat(balanced(38, full), line)), "EPG"},
		// too deep in between
		"texts in group":        {group(balanced(40, word("a"))), "EPGFN"},
		"texts and line":        {group(cat(line, cat(balanced(37, full), ab))), "EPGFN"},
		"nest goes":             {nest(1, balanced(40, full)), "EPGN"},
		"nest goes in front":    {nest(2, cat(line, balanced(39, full))), "EPGN"},
		"plain group goes":      {group(balanced(40, full)), "EPGN"},
		"hard group goes":       {group(cat(balanced(39, full), leaf(impl.OpHard))), "EPGN"},
		"group of a group goes": {cat(balanced(38, full), group(group(line))), "EPGN"},
		"empty part goes":       {group(cat(cat(line, balanced(38, full)), leaf(impl.OpEmpty))), "EPGN"},
	} {
		for i, p := range passes() {
			sign := "EPGTFN"[i : i+1]
			if _, ok := p.call(c.d); !impl.DocValid(c.d) || ok != strings.Contains(c.valid, sign) {
				t.Errorf("%s: %s of %d nodes, %d deep, returns %v", name, p.name, impl.DocSize(c.d), deepness(c.d), ok)
			}
		}
		checkNormal(t, c.d)
		checkRendersAlike(t, c.d, 0, 1, 30, 200)
	}
}

// TestGreatDocsNormal has documents of up to 80 nodes and 40 levels.
func TestGreatDocsNormal(t *testing.T) {
	for _, around := range layers() {
		for _, bottom := range []impl.Doc{leaf(impl.OpEmpty), word("a"), leaf(impl.OpLine), leaf(impl.OpHard), cat(leaf(impl.OpBreak), word("b"))} {
			for n := 30; n <= 39; n++ {
				d := deep(n, bottom, around)
				if impl.DocValid(d) {
					checkNormal(t, d)
					checkRendersAlike(t, d, 0, 1, 200)
				}
			}
		}
	}
	for n := 60; n <= 80; n++ {
		checkNormal(t, wide(n))
		checkNormal(t, group(wide(n-1)))
		checkNormal(t, nest(9, wide(n-1)))
	}
	for _, d := range greatChoiceDocs() {
		checkNormal(t, d)
		checkRendersAlike(t, d, 0, 7, 40, 200)
	}
}

func TestNoDocsNormal(t *testing.T) {
	for name, d := range noDocs() {
		checkNotNormal(t, name, d)
	}
	// These are not valid, but what the functions would make of them is.
	empty, plain := leaf(impl.OpEmpty), word("a")
	for name, d := range map[string]impl.Doc{
		"empty parts":   deep(40, empty, func(d impl.Doc) impl.Doc { return cat(d, empty) }),
		"empty groups":  groups(40, empty),
		"great nest":    nest(10, plain),
		"negative nest": nest(-1, plain),
		"two nests":     nest(-1, nest(3, leaf(impl.OpLine))),
		"plain groups":  groups(40, plain),
		"group with N":  {Op: impl.OpGroup, N: 1, Kids: []impl.Doc{plain}},
		"nest with two": {Op: impl.OpNest, Kids: []impl.Doc{plain, plain}},
		"empty of two":  {Op: impl.OpCat, Text: "a", Kids: []impl.Doc{empty, plain}},
		"no text":       cat(plain, word("")),
		"texts":         deep(40, plain, func(d impl.Doc) impl.Doc { return cat(plain, d) }),
		"three parts":   {Op: impl.OpCat, Kids: []impl.Doc{plain, plain, plain}},
		"part left out": cat(cat(empty, impl.Doc{Op: impl.OpEmpty, Text: "a"}), plain),
	} {
		checkNotNormal(t, name, d)
	}
}
