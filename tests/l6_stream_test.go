package tests

import (
	"fmt"
	"strings"
	"testing"

	"loop.example/docalgebra/impl"
)

func TestTokenConstants(t *testing.T) {
	kinds := []int{impl.TokText, impl.TokLine, impl.TokBreak, impl.TokHard, impl.TokBegin, impl.TokEnd, impl.TokIn, impl.TokOut}
	for i, kind := range kinds {
		if kind != i+1 {
			t.Errorf("the kind %d is %d", i+1, kind)
		}
	}
}

func TestKnownTokens(t *testing.T) {
	for text, want := range map[string][]impl.Token{
		"~":                      nil,
		"(~(~~))":                nil,
		`"ab"`:                   {textTok("ab")},
		`"abcdefghijkl"`:         {textTok("abcdefghijkl")},
		`"{[(,:=09)]}"`:          {textTok("{[(,:=09)]}")},
		"_":                      {tok(impl.TokLine)},
		".":                      {tok(impl.TokBreak)},
		"!":                      {tok(impl.TokHard)},
		"[~]":                    {tok(impl.TokBegin), tok(impl.TokEnd)},
		"0<~>":                   {inTok(0), tok(impl.TokOut)},
		"9<~>":                   {inTok(9), tok(impl.TokOut)},
		`("a"("b""c"))`:          toks("a b c"),
		`(("a""b")"c")`:          toks("a b c"),
		`[("a"(_"b"))]`:          toks("[a_b]"),
		`(~("a"2<(~[_])>))`:      toks("a2<[_]>"),
		`([2<3<.>>][[(!"a")]])`:  toks("[2<3<.>>][[!a]]"),
		`((("a"_)[.])(!0<"b">))`: toks("a_[.]!0<b>"),
	} {
		checkTokens(t, parsed(t, text), want)
	}
}

// docShapes are documents of one, several, many and no tokens, in all ways to join them.
func docShapes(t *testing.T) []impl.Doc {
	out := append(choiceParts(t), anyDocs(1500, 10)...)
	for _, list := range docsByLength(8, "~_\"a[2") {
		out = append(out, list...)
	}
	for _, d := range greatChoiceDocs() {
		out = append(out, d)
	}
	for _, around := range layers() {
		out = append(out, deep(39, leaf(impl.OpLine), around), deep(39, leaf(impl.OpHard), around))
	}
	return append(out, wide(80), cat(groups(38, leaf(impl.OpLine)), groups(38, leaf(impl.OpBreak))))
}

func TestTokensOfDocs(t *testing.T) {
	for _, d := range docShapes(t) {
		want := tokensFrom(d)
		checkTokens(t, d, want)
		checkDocOf(t, want, docFrom(want))
		checkStreamSizes(t, want, sizesFrom(want))
	}
}

// TestStreamOfDocs checks the promise: the tokens of a document, and the document of these, are laid out as it is.
func TestStreamOfDocs(t *testing.T) {
	back := 0
	for _, d := range docShapes(t) {
		list, _ := impl.TokensOf(d)
		other, ok := impl.DocOf(list)
		if ok {
			back++
		}
		for _, width := range []int{0, 1, 2, 3, 4, 5, 7, 12, 20, 33, 60, 120, 199, 200} {
			want, _ := impl.RenderDoc(d, width)
			if l, ok := impl.StreamRows(list, width); !ok || !sameRows(l, want) {
				t.Fatalf("StreamRows of the tokens of %s in %d = %s, %v, want %s", textOf(d), width, show(l), ok, show(want))
			}
			if l, _ := impl.RenderDoc(other, width); ok && !sameRows(l, want) {
				t.Fatalf("%s in %d is %s, but %s is %s", textOf(other), width, show(l), textOf(d), show(want))
			}
		}
	}
	if back < 1000 {
		t.Errorf("only %d documents are made of tokens again", back)
	}
}

func TestTokensOfNoDocs(t *testing.T) {
	for name, d := range noDocs() {
		if list, ok := impl.TokensOf(d); ok || len(list) > 0 {
			t.Errorf("%s: TokensOf = %s, %v", name, signsOf(list), ok)
		}
	}
}

func TestKnownDocsOf(t *testing.T) {
	for signs, want := range map[string]string{
		"":             "~",
		"a":            `"a"`,
		"_":            "_",
		".":            ".",
		"!":            "!",
		"[]":           "[~]",
		"4<>":          "4<~>",
		"0<[]>":        "0<[~]>",
		"a b":          `("a""b")`,
		"a b c":        `("a"("b""c"))`,
		"a_b.c!":       `("a"(_("b"(.("c"!)))))`,
		"[][]":         "([~][~])",
		"[a][b][c]":    `(["a"](["b"]["c"]))`,
		"[a_b]":        `[("a"(_"b"))]`,
		"[[a]b]":       `[(["a"]"b")]`,
		"[a[b]]":       `[("a"["b"])]`,
		"2<a>3<b>":     `(2<"a">3<"b">)`,
		"2<3<_>>":      "2<3<_>>",
		"[2<a>b]_":     `([(2<"a">"b")]_)`,
		"2<[a]_>[2<>]": `(2<(["a"]_)>[2<~>])`,
		"a[]b":         `("a"([~]"b"))`,
	} {
		checkDocOf(t, toks(signs), parsed(t, want))
	}
}

// TestDocsOfLimits has lists whose documents are at the limits of documents, and beyond them.
func TestDocsOfLimits(t *testing.T) {
	unary := toks("[x]2<x>")
	for name, c := range map[string]struct {
		list []impl.Token
		ok   bool
	}{
		"40 texts":           {repeated(40, textTok("a")), true},
		"41 texts":           {repeated(41, textTok("a")), false},
		"199 newlines":       {repeated(199, tok(impl.TokLine)), false},
		"39 groups":          {enclosed(39, impl.TokBegin, impl.TokBegin, toks("a")), true},
		"40 groups":          {enclosed(40, impl.TokBegin, impl.TokBegin, toks("a")), false},
		"39 empty groups":    {enclosed(39, impl.TokBegin, impl.TokBegin, nil), true},
		"40 empty groups":    {enclosed(40, impl.TokBegin, impl.TokBegin, nil), false},
		"39 nests":           {enclosed(39, impl.TokIn, impl.TokIn, toks("_")), true},
		"50 nests":           {enclosed(50, impl.TokIn, impl.TokIn, toks("_")), false},
		"80 nodes":           {joined(repeated(1, unary...), toks("[x]"), repeated(36, textTok("a"))), true},
		"81 nodes":           {joined(repeated(2, unary...), repeated(35, textTok("a"))), false},
		"80 nodes, few deep": {joined(repeated(26, toks("[x]")...), toks("[_]")), true},
		"81 nodes, few deep": {joined(repeated(26, toks("[x]")...), toks("[[_]]")), false},
	} {
		if want := docFrom(c.list); impl.DocValid(want) != c.ok || !impl.TokensValid(c.list) {
			t.Fatalf("%s: the test's document has %d nodes and is %d deep", name, impl.DocSize(want), deepness(want))
		}
		checkDocOf(t, c.list, docFrom(c.list))
	}
	// A valid document can have the tokens of one that is too deep.
	d := groups(2, balanced(39, word("a")))
	list, ok := impl.TokensOf(d)
	if !ok || !impl.DocValid(d) {
		t.Fatalf("TokensOf(%s) = %s, %v", textOf(d), signsOf(list), ok)
	}
	if other, ok := impl.DocOf(list); ok || !isZeroDoc(other) {
		t.Errorf("DocOf(%s) = %v, %v", signsOf(list), other, ok)
	}
}

func TestKnownStreamSizes(t *testing.T) {
	for signs, want := range map[string][]int{
		"":           {},
		"a":          {1},
		"abcdefghij": {10},
		"_.!":        {1, 0, 0},
		"[]":         {0, 0},
		"9<>":        {0, 0},
		"[a_b]":      {3, 1, 1, 1, 0},
		"[a.b]":      {2, 1, 0, 1, 0},
		"[9<ab_>]":   {3, 0, 2, 1, 0, 0},
		// at the end of the stream
		"_[ab]":       {1, 2, 2, 0},
		"[ab]cd ef":   {6, 2, 0, 2, 2},
		"[a_[bb_cc]]": {7, 1, 1, 5, 2, 1, 2, 0, 0},
		"[[[]]]":      {0, 0, 0, 0, 0, 0},
		// in front of each newline
		"[a]bb_c":         {3, 1, 0, 2, 1, 1},
		"[a]bb.c":         {3, 1, 0, 2, 0, 1},
		"[a]bb!c":         {3, 1, 0, 2, 0, 1},
		"[a]_b":           {1, 1, 0, 1, 1},
		"[a][bb_c]":       {3, 1, 0, 4, 2, 1, 1, 0},
		"[[a]bb.c]d":      {5, 3, 1, 0, 2, 0, 1, 0, 1},
		"2<[a]>bb3<c>_d":  {0, 4, 1, 0, 0, 2, 0, 1, 0, 1, 1},
		"2<[a]bb>[cc[]]d": {0, 6, 1, 0, 2, 0, 3, 2, 1, 0, 0, 1},
		// a newline that has to stay
		"[!]":            {-1, 0, 0},
		"[a!bb]c":        {-1, 1, 0, 2, 0, 1},
		"[[a_b]c!]d":     {-1, 4, 1, 1, 1, 0, 1, 0, 0, 1},
		"[a[2<!>]][b]!":  {-1, 1, -1, 0, 0, 0, 0, 0, 1, 1, 0, 0},
		"[[!][a]bb][c]!": {-1, -1, 0, 0, 4, 1, 0, 2, 0, 1, 1, 0, 0},
	} {
		checkStreamSizes(t, toks(signs), want)
		checkStreamSizes(t, toks(signs), sizesFrom(toks(signs)))
	}
}

// streamStep is the text of a list in the widths from one on.
type streamStep struct {
	from int
	text string
}

// TestKnownStreams has what a list is laid out as, and how many tokens have to be seen ahead.
func TestKnownStreams(t *testing.T) {
	for signs, c := range map[string]struct {
		ahead int
		steps []streamStep
	}{
		"":           {0, []streamStep{{0, ""}}},
		"a":          {0, []streamStep{{0, "a"}}},
		"a_b.c!d":    {0, []streamStep{{0, "a\nb\nc\nd"}}},
		"a2<_b>_c":   {0, []streamStep{{0, "a\n  b\nc"}}},
		"2<_a3<_b>>": {0, []streamStep{{0, "\n  a\n     b"}}},
		"[]":         {2, []streamStep{{0, ""}}},
		"a[]":        {2, []streamStep{{0, "a"}}},
		"a[]_":       {2, []streamStep{{0, "a\n"}}},
		"[_]":        {3, []streamStep{{0, "\n"}, {1, " "}}},
		"[.]":        {3, []streamStep{{0, ""}}},
		"a[.]":       {3, []streamStep{{0, "a\n"}, {1, "a"}}},
		// a group at the end of the stream
		"[a_b]":      {5, []streamStep{{0, "a\nb"}, {3, "a b"}}},
		"[a.b]":      {5, []streamStep{{0, "a\nb"}, {2, "ab"}}},
		"aa[b_c]":    {5, []streamStep{{0, "aab\nc"}, {5, "aab c"}}},
		"aa_[b_c]":   {5, []streamStep{{0, "aa\nb\nc"}, {3, "aa\nb c"}}},
		"[a_[b_c]]":  {9, []streamStep{{0, "a\nb\nc"}, {3, "a\nb c"}, {5, "a b c"}}},
		"[[a_b]_c]":  {9, []streamStep{{0, "a\nb\nc"}, {3, "a b\nc"}, {5, "a b c"}}},
		"[[[a_b]]]":  {9, []streamStep{{0, "a\nb"}, {3, "a b"}}},
		"3<_[b_c]>":  {6, []streamStep{{0, "\n   b\n   c"}, {6, "\n   b c"}}},
		"[2<a_b>]":   {7, []streamStep{{0, "a\n  b"}, {3, "a b"}}},
		"[a_b]c":     {6, []streamStep{{0, "a\nbc"}, {4, "a bc"}}},
		"[a_b]c d e": {8, []streamStep{{0, "a\nbcde"}, {6, "a bcde"}}},
		// a nest that is closed behind a group
		"2<[a_b]>":            {6, []streamStep{{0, "a\n  b"}, {3, "a b"}}},
		"2<[a_b]>c":           {7, []streamStep{{0, "a\n  bc"}, {4, "a bc"}}},
		"2<[a_b]>c_d":         {7, []streamStep{{0, "a\n  bc\nd"}, {4, "a bc\nd"}}},
		"2<[a_b]>_c":          {6, []streamStep{{0, "a\n  b\nc"}, {3, "a b\nc"}}},
		"2<[a_b]_>_c":         {5, []streamStep{{0, "a\n  b\n\nc"}, {3, "a b\n\nc"}}},
		"2<3<[a_b]>_c>_d":     {6, []streamStep{{0, "a\n     b\n  c\nd"}, {3, "a b\n  c\nd"}}},
		"2<[3<a_b>]_c>_d":     {7, []streamStep{{0, "a\n     b\n  c\nd"}, {3, "a b\n  c\nd"}}},
		"[2<[a_b]>c]d":        {11, []streamStep{{0, "a\n  bcd"}, {5, "a bcd"}}},
		"4<_[2<[a_b]>c]d>_[]": {12, []streamStep{{0, "\n    a\n      bcd\n"}, {9, "\n    a bcd\n"}}},
		// a newline behind a group
		"[a_b]_c":    {5, []streamStep{{0, "a\nb\nc"}, {3, "a b\nc"}}},
		"[a_b]c_d":   {6, []streamStep{{0, "a\nbc\nd"}, {4, "a bc\nd"}}},
		"[a_b]c.d":   {6, []streamStep{{0, "a\nbc\nd"}, {4, "a bc\nd"}}},
		"[a_b]c!d":   {6, []streamStep{{0, "a\nbc\nd"}, {4, "a bc\nd"}}},
		"[a_b][c_d]": {7, []streamStep{{0, "a\nbc\nd"}, {4, "a bc\nd"}, {6, "a bc d"}}},
		"[a_b][c.d]": {7, []streamStep{{0, "a\nbc\nd"}, {3, "a\nbcd"}, {4, "a bc\nd"}, {5, "a bcd"}}},
		"[a_b][c]d":  {9, []streamStep{{0, "a\nbcd"}, {5, "a bcd"}}},
		// a newline that has to stay
		"[!]":          {1, []streamStep{{0, "\n"}}},
		"[a!b]":        {2, []streamStep{{0, "a\nb"}}},
		"[a_b!c]":      {4, []streamStep{{0, "a\nb\nc"}}},
		"[a_b[c!d]]":   {6, []streamStep{{0, "a\nbc\nd"}}},
		"[[a_b]c!d]":   {7, []streamStep{{0, "a\nbc\nd"}, {4, "a bc\nd"}}},
		"[a![b_c]]":    {6, []streamStep{{0, "a\nb\nc"}, {3, "a\nb c"}}},
		"[2<a!b>_c]":   {3, []streamStep{{0, "a\n  b\nc"}}},
		"[a_b][c!]":    {7, []streamStep{{0, "a\nbc\n"}, {4, "a bc\n"}}},
		"![a_b]!c":     {5, []streamStep{{0, "\na\nb\nc"}, {3, "\na b\nc"}}},
		"[!][a_b c d]": {7, []streamStep{{0, "\na\nbcd"}, {5, "\na bcd"}}},
	} {
		checkSteps(t, toks(signs), c.ahead, c.steps)
	}
}

// checkSteps checks a list in all widths.
func checkSteps(t *testing.T, list []impl.Token, ahead int, steps []streamStep) {
	t.Helper()
	now := 0
	for width := range 201 {
		if now+1 < len(steps) && steps[now+1].from == width {
			now++
		}
		l, ok := impl.StreamRows(list, width)
		if got := strings.Join(lineTexts(l), "\n"); !ok || got != steps[now].text {
			t.Errorf("StreamRows(%s, %d) = %q, %v, want %q", signsOf(list), width, got, ok, steps[now].text)
		}
		if n, ok := impl.LookAhead(list, width); !ok || n != ahead {
			t.Errorf("LookAhead(%s, %d) = %d, %v, want %d", signsOf(list), width, n, ok, ahead)
		}
	}
	checkStream(t, list, upTo(200)...)
}

// TestStreamIndents has empty lines with indentations, which a text does not tell.
func TestStreamIndents(t *testing.T) {
	for _, c := range []struct {
		signs string
		width int
		rows  []impl.Row
	}{
		{"3<_>", 0, []impl.Row{row(0, ""), row(3, "")}},
		{"3<_2<.>!>_", 0, []impl.Row{row(0, ""), row(3, ""), row(5, ""), row(3, ""), row(0, "")}},
		{"3<_[.]>", 2, []impl.Row{row(0, ""), row(3, ""), row(3, "")}},
		{"3<_[.]>", 3, []impl.Row{row(0, ""), row(3, "")}},
		{"3<_>[.]", 2, []impl.Row{row(0, ""), row(3, ""), row(0, "")}},
		{"3<_>[.]", 3, []impl.Row{row(0, ""), row(3, "")}},
		{"[3<_>4<_>]5<_>", 1, []impl.Row{row(0, ""), row(3, ""), row(4, ""), row(5, "")}},
		{"[3<_>4<_>]5<_>", 2, []impl.Row{row(0, "  "), row(5, "")}},
		{"9<9<[2<!>.]>>", 200, []impl.Row{row(0, ""), row(20, ""), row(18, "")}},
	} {
		list := toks(c.signs)
		if l, ok := impl.StreamRows(list, c.width); !ok || !sameRows(l, c.rows) {
			t.Errorf("StreamRows(%s, %d) = %s, %v, want %s", c.signs, c.width, show(l), ok, show(c.rows))
		}
		checkStream(t, list, upTo(60)...)
	}
}

// TestFarNewlines has many tokens between a group and a newline, and between both in it.
func TestFarNewlines(t *testing.T) {
	for _, n := range []int{0, 1, 2, 50, 150, 193} {
		texts, flat := repeated(n, textTok("c")), strings.Repeat("c", n)
		for _, end := range []int{impl.TokLine, impl.TokBreak, impl.TokHard} {
			list := joined(toks("[a_b]"), texts, []impl.Token{tok(end)})
			checkSteps(t, list, n+5, []streamStep{{0, "a\nb" + flat + "\n"}, {n + 3, "a b" + flat + "\n"}})
		}
		list := joined(toks("[a_b"), texts, toks("!]"))
		checkSteps(t, list, n+4, []streamStep{{0, "a\nb" + flat + "\n"}})
		list = joined(toks("[a_b"), texts, toks("]!"))
		checkSteps(t, list, n+5, []streamStep{{0, "a\nb" + flat + "\n"}, {n + 3, "a b" + flat + "\n"}})
	}
	for _, n := range []int{1, 2, 30, 49} {
		inside := strings.Repeat("[", n) + "a_b" + strings.Repeat("]", n)
		checkSteps(t, toks(inside+"c!d"), 2*n+4, []streamStep{{0, "a\nbc\nd"}, {4, "a bc\nd"}})
		checkSteps(t, toks("["+inside+"!d]"), 2*n+4, []streamStep{{0, "a\nb\nd"}, {3, "a b\nd"}})
	}
}

// TestExactStreams has groups that need as many bytes as there are, with all that counts, and one more.
func TestExactStreams(t *testing.T) {
	for _, total := range []int{1, 2, 3, 13, 64, 100, 199, 200, 201} {
		for _, part := range [][4]int{{0, 0, total, 0}, {total - 1, 0, 1, 0}, {0, total - 1, 1, 0}, {0, 0, 1, total - 1}, {total / 4, total / 4, total - total/4*3, total / 4}} {
			front := nestsToks(part[0], toks("_"))
			line := joined(textsToks(part[1]), toks("["), textsToks(part[2]-1), toks("_]"), textsToks(part[3]))
			for _, end := range []string{"", "!cccc", ".[cccc]", "[_cccc]"} {
				checkExactStream(t, joined(front, line, toks(end)), total, part[1]+part[2])
			}
		}
	}
}

// checkExactStream checks that the first group of a list, behind its first newline, is flattened from a width on: then
// there are so many bytes up to its end.
func checkExactStream(t *testing.T, list []impl.Token, from int, bytes int) {
	t.Helper()
	for _, width := range []int{0, from - 2, from - 1, from, from + 1, 200} {
		if width < 0 || width > 200 {
			continue
		}
		l, ok := impl.StreamRows(list, width)
		if flat := len(l) > 1 && len(l[1].Text) >= bytes; !ok || flat != (width >= from) {
			t.Fatalf("StreamRows(%s, %d) = %s, %v", signsOf(list), width, show(l), ok)
		}
		checkStream(t, list, width)
	}
}

// TestShortStreams has all lists of up to 6 tokens, with one token of each kind.
func TestShortStreams(t *testing.T) {
	kinds := toks("ab_.![]3<>")
	for n := range 7 {
		count := 1
		for range n {
			count *= len(kinds)
		}
		for number := range count {
			var list []impl.Token
			for ; len(list) < n; number /= len(kinds) {
				list = append(list, kinds[number%len(kinds)])
			}
			if closed(list) {
				checkStream(t, list, 0, 1, 2, 3, 4, 5, 7, 200)
			} else {
				checkNoStream(t, signsOf(list), list, 3)
			}
		}
	}
}

func TestAnyStreams(t *testing.T) {
	for _, list := range anyStreams(24, 1) {
		checkStream(t, list, upTo(200)...)
	}
	for _, list := range anyStreams(900, 2) {
		checkStream(t, list, 0, 1, 7, 20, 60, 120, 200)
	}
}

// TestAnyStreamsNotClosed has lists that are valid but for one token, which is left out, there twice, or another one.
func TestAnyStreamsNotClosed(t *testing.T) {
	for _, list := range anyStreams(300, 3) {
		for i, k := range list {
			front, behind := list[:i], list[i+1:]
			for _, part := range [][]impl.Token{nil, {k, k}, {tok(impl.TokEnd)}, {tok(impl.TokOut)}, {tok(impl.TokBegin)}, {tok(impl.TokHard)}} {
				other := joined(front, part, behind)
				if want := closed(other) && len(other) < 200; impl.TokensValid(other) != want {
					t.Fatalf("TokensValid(%s) = %v", signsOf(other), !want)
				}
			}
		}
	}
}

func TestStreamsAtLimits(t *testing.T) {
	begin, in := impl.TokBegin, impl.TokIn
	for name, list := range map[string][]impl.Token{
		"199 newlines":     repeated(199, tok(impl.TokLine)),
		"199 hard":         repeated(199, tok(impl.TokHard)),
		"199 texts":        repeated(199, textTok("abcdefghijkl")),
		"198 in groups":    repeated(66, toks("[_]")...),
		"99 groups":        joined(repeated(99, toks("[]")...), toks("a")),
		"group of 199":     joined(toks("["), repeated(197, textTok("a")), toks("]")),
		"group, 199":       joined(toks("[_]"), repeated(196, textTok("a"))),
		"hard at the end":  joined(toks("["), repeated(196, textTok("a")), toks("!]")),
		"50 groups":        enclosed(50, begin, begin, toks("a_b")),
		"50 nests":         enclosed(50, in, in, toks("a_b")),
		"50 nests, group":  enclosed(49, in, in, toks("_[a_b]")),
		"50 of both":       enclosed(50, in, begin, toks("a_b")),
		"50 of both, full": enclosed(50, begin, in, repeated(33, toks("a_b")...)),
		"49 hard groups":   enclosed(49, begin, in, toks("a_b!c")),
		"50 again":         joined(repeated(49, toks("[]")...), enclosed(50, in, begin, nil)),
		"N of 0 and of 9":  toks("0<_9<_[0<_a>_]b>>"),
		"no tokens":        {},
	} {
		if !closed(list) || len(list) > 199 {
			t.Fatalf("%s: the test's list is not valid", name)
		}
		checkStream(t, list, 0, 1, 2, 3, 100, 199, 200)
		for _, width := range otherWidths {
			checkNotStreamed(t, name, list, width)
		}
	}
	for n := range 12 {
		for depth := 48; depth <= 53; depth++ {
			list := joined(repeated(n, toks("[2<>]")...), enclosed(depth, []int{begin, in}[n%2], in, toks("a_b")))
			if depth > 50 {
				checkNoStream(t, fmt.Sprintf("%d open", depth), list, 0, 200)
				continue
			}
			checkStream(t, list, 0, 200)
		}
	}
}

// TestStreamsBeyondLayouts has valid lists whose lines are longer, or deeper in, than those of a layout can be.
func TestStreamsBeyondLayouts(t *testing.T) {
	for nests, indent := range map[int]int{44: 396, 45: 405, 50: 450} {
		list := enclosed(nests, impl.TokIn, impl.TokIn, toks("a_b_c"))
		for _, width := range []int{0, 200} {
			checkStreamIs(t, list, width, []impl.Row{row(0, "a"), row(indent, "b"), row(indent, "c")}, 0)
		}
	}
	for _, n := range []int{166, 167, 196} {
		texts, line := repeated(n, textTok("abcdefghijkl")), strings.Repeat("abcdefghijkl", n)
		checkStreamIs(t, texts, 0, lines(line), 0)
		checkStreamIs(t, joined(toks("_["), texts, toks("]")), 200, lines("", line), n+2)
	}
}

func TestStreamsInOtherWidths(t *testing.T) {
	for _, signs := range []string{"", "a", "_", "[]", "[a_b]c", "[!]", "2<_[a]>"} {
		for _, width := range otherWidths {
			checkNotStreamed(t, signs, toks(signs), width)
		}
		checkStream(t, toks(signs), 0, 1, 199, 200)
	}
}

func TestNoStreams(t *testing.T) {
	for name, list := range noStreams() {
		checkNoStream(t, name, list, append(otherWidths, 0, 1, 80, 200)...)
	}
}
