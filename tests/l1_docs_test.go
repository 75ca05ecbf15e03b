package tests

import (
	"fmt"
	"strings"
	"testing"

	"loop.example/docalgebra/impl"
)

func TestDocConstants(t *testing.T) {
	got := []int{impl.OpEmpty, impl.OpText, impl.OpLine, impl.OpBreak, impl.OpHard, impl.OpNest, impl.OpCat, impl.OpGroup,
		impl.MaxText, impl.MaxNest, impl.MaxNodes, impl.MaxDepth}
	if want := "[1 2 3 4 5 6 7 8 12 9 80 40]"; fmt.Sprint(got) != want {
		t.Errorf("constants are %v, want %s", got, want)
	}
}

func TestTextValidBytes(t *testing.T) {
	const allowed = "abcdefghijklmnopqrstuvwxyz0123456789,:={}()[]"
	for c := range 256 {
		sign := string([]byte{byte(c)})
		want := strings.Contains(allowed, sign)
		for _, s := range []string{sign, sign + "a", "a" + sign, "abcde" + sign + "vwxyz", "abcdefghijk" + sign} {
			if impl.TextValid(s) != want {
				t.Errorf("TextValid(%q) = %v", s, !want)
			}
		}
	}
}

func TestTextValidLengths(t *testing.T) {
	for n := range 30 {
		if got, want := impl.TextValid(strings.Repeat("a", n)), n >= 1 && n <= 12; got != want {
			t.Errorf("TextValid of %d bytes = %v", n, got)
		}
	}
	if impl.TextValid("é") || impl.TextValid("\xff") || impl.TextValid(strings.Repeat("a", 1<<20)) {
		t.Error("TextValid accepts a text that is none")
	}
}

// fits says what the table of the specification does: how many Kids a kind has, and which of Text and N.
func fits(op, n int, text string, kids int) bool {
	want := map[int]int{1: 0, 2: 0, 3: 0, 4: 0, 5: 0, 6: 1, 7: 2, 8: 1}
	count, known := want[op]
	switch {
	case !known || kids != count:
		return false
	case op == 2:
		return text == "ok" && n == 0
	case op == 6:
		return text == "" && n >= 0 && n <= 9
	}
	return text == "" && n == 0
}

func TestDocValidNodes(t *testing.T) {
	for op := -1; op <= 10; op++ {
		for _, n := range []int{-1 << 63, -1, 0, 1, 9, 10, 1<<63 - 1} {
			for _, text := range []string{"", "ok", "not ok", "thirteenbytes"} {
				for kids := range 4 {
					d := impl.Doc{Op: op, N: n, Text: text, Kids: make([]impl.Doc, kids)}
					for i := range kids {
						d.Kids[i] = leaf(impl.OpLine)
					}
					checkValidAnywhere(t, d, fits(op, n, text, kids))
				}
			}
		}
	}
}

// checkValidAnywhere checks what all functions that ask for a document make of d, alone and within others.
func checkValidAnywhere(t *testing.T, d impl.Doc, want bool) {
	t.Helper()
	for _, whole := range []impl.Doc{d, group(d), nest(0, group(d)), cat(d, leaf(impl.OpEmpty)), cat(word("a"), d)} {
		if got := impl.DocValid(whole); got != want {
			t.Fatalf("DocValid(%v) = %v", whole, got)
		}
		if got := impl.FormatDoc(whole); (got != "") != want {
			t.Fatalf("FormatDoc(%v) = %q", whole, got)
		}
		if got := impl.CanFlatten(whole); got != (want && d.Op != impl.OpHard) {
			t.Fatalf("CanFlatten(%v) = %v", whole, got)
		}
		for _, pair := range [][2]impl.Doc{{whole, leaf(impl.OpLine)}, {leaf(impl.OpLine), whole}} {
			if c, ok := impl.CatDocs(pair[0], pair[1]); ok != want || !ok && !isZeroDoc(c) {
				t.Fatalf("CatDocs(%v, %v) = %v, %v", pair[0], pair[1], c, ok)
			}
		}
	}
}

func TestDocValidEmptyKids(t *testing.T) {
	d := impl.Doc{Op: impl.OpLine, Kids: []impl.Doc{}}
	if !impl.DocValid(d) || !impl.DocSame(d, leaf(impl.OpLine)) || impl.FormatDoc(d) != "_" {
		t.Error("empty Kids are not as none")
	}
}

func TestNodeLimit(t *testing.T) {
	for n := 1; n <= 100; n++ {
		d := wide(n)
		if impl.DocSize(d) != n || impl.DocValid(d) != (n <= 80) || (impl.FormatDoc(d) == textOf(d)) != (n <= 80) {
			t.Errorf("%d nodes: DocSize = %d, DocValid = %v", n, impl.DocSize(d), impl.DocValid(d))
		}
		x, ok := impl.ParseDoc(textOf(d))
		if ok != (n <= 80) || ok && !impl.DocSame(x, d) || !ok && !isZeroDoc(x) {
			t.Errorf("%d nodes: ParseDoc = %v, %v", n, x, ok)
		}
	}
}

func TestDepthLimit(t *testing.T) {
	for name, around := range layers() {
		for depth := 1; depth <= 45; depth++ {
			bottom := leaf(impl.OpBreak)
			if strings.HasPrefix(name, "cat") {
				// groups at the bottom, so that it is not the number of nodes that makes it invalid
				bottom = deep(max(depth-6, 0), bottom, group)
			}
			d := deep(depth-deepness(bottom), bottom, around)
			want := depth <= 40
			if deepness(d) != depth || impl.DocSize(d) > 80 {
				t.Fatalf("%s: %d deep: the test's document is wrong", name, depth)
			}
			if impl.DocValid(d) != want || (impl.FormatDoc(d) == textOf(d)) != want || impl.CanFlatten(d) != want {
				t.Errorf("%s: %d deep: DocValid = %v", name, depth, impl.DocValid(d))
			}
			x, ok := impl.ParseDoc(textOf(d))
			if ok != want || ok && !impl.DocSame(x, d) || !ok && !isZeroDoc(x) {
				t.Errorf("%s: %d deep: ParseDoc = %v, %v", name, depth, x, ok)
			}
		}
	}
}

// TestBothLimits has as many nodes on a way down as the nodes of a document allow.
func TestBothLimits(t *testing.T) {
	for _, name := range []string{"cat left", "cat right"} {
		most, more := deep(39, leaf(impl.OpEmpty), layers()[name]), deep(40, leaf(impl.OpEmpty), layers()[name])
		if !impl.DocValid(most) || !impl.DocSame(parsed(t, impl.FormatDoc(most)), most) {
			t.Errorf("%s: a document of 79 nodes, 40 deep, is not valid", name)
		}
		if _, ok := impl.ParseDoc(textOf(more)); ok || impl.DocValid(more) {
			t.Errorf("%s: a document of 81 nodes, 41 deep, is valid", name)
		}
	}
}

func TestFormatKnownDocs(t *testing.T) {
	b := cat(leaf(impl.OpLine), word("b"))
	for text, d := range map[string]impl.Doc{
		"~":                   leaf(impl.OpEmpty),
		"_":                   leaf(impl.OpLine),
		".":                   leaf(impl.OpBreak),
		"!":                   leaf(impl.OpHard),
		`"a"`:                 word("a"),
		`"abcdefghijkl"`:      word("abcdefghijkl"),
		`"[("`:                word("[("),
		`")]"`:                word(")]"),
		`"0={},:9"`:           word("0={},:9"),
		"0<~>":                nest(0, leaf(impl.OpEmpty)),
		"9<_>":                nest(9, leaf(impl.OpLine)),
		"0<0<0<!>>>":          nest(0, nest(0, nest(0, leaf(impl.OpHard)))),
		`[("a"(_"b"))]`:       group(cat(word("a"), b)),
		`(("a"(_"b"))"c")`:    cat(cat(word("a"), b), word("c")),
		`[[["["]]]`:           group(group(group(word("[")))),
		`("("(")"")"))`:       cat(word("("), cat(word(")"), word(")"))),
		`("("2<[(")"_)]>)`:    cat(word("("), nest(2, group(cat(word(")"), leaf(impl.OpLine))))),
		`("2"2<"2">)`:         cat(word("2"), nest(2, word("2"))),
		`[("{"(5<(.!)>"}"))]`: group(cat(word("{"), cat(nest(5, cat(leaf(impl.OpBreak), leaf(impl.OpHard))), word("}")))),
	} {
		if got := impl.FormatDoc(d); got != text {
			t.Errorf("FormatDoc = %q, want %q", got, text)
		}
		if x, ok := impl.ParseDoc(text); !ok || !impl.DocSame(x, d) || !impl.DocSame(d, x) {
			t.Errorf("ParseDoc(%q) = %v, %v", text, x, ok)
		}
	}
}

func TestFormatNests(t *testing.T) {
	for n := range 10 {
		text := fmt.Sprintf("%d<~>", n)
		if got := impl.FormatDoc(nest(n, leaf(impl.OpEmpty))); got != text {
			t.Errorf("FormatDoc = %q, want %q", got, text)
		}
		if d := parsed(t, text); d.Op != impl.OpNest || d.N != n {
			t.Errorf("ParseDoc(%q) = %v", text, d)
		}
	}
}

func TestParseNoDocs(t *testing.T) {
	for _, s := range []string{
		"", " ", "~ ", " ~", "~\n", "~~", "__", "x", "\x00", "~\x00", "é",
		`"`, `""`, `"a`, `a"`, `"a""b"`, `"A"`, `"a b"`, `"a"b`, `"<"`, `"_"`, `"~"`, `"."`, `"!"`, `"\"`, `"é"`, `"abcdefghijklm"`, `"""`, `"a"""`,
		"(", ")", "()", "(~)", "(~~", "(~~~)", "~~)", "(~~]", "(~(~~)", "((~~)~", "[~)", "(~~))",
		"[", "]", "[]", "[~", "~]", "[~~]", `["a"_]`, "[~]]", "[[~]", "[~>", "[~][~]",
		"<~>", "10<~>", "a<~>", "-1<~>", "1", "1<", "1<>", "1~", "1<~", "1<~]", "1<~>>", "1<~~>", "1(~)", "12<~>", "1>~<", "01<~>", ":<~>", "/<~>",
	} {
		if d, ok := impl.ParseDoc(s); ok || !isZeroDoc(d) {
			t.Errorf("ParseDoc(%q) = %v, %v", s, d, ok)
		}
	}
}

func TestParseLongTexts(t *testing.T) {
	const many = 1 << 23 // more than a function that calls itself for each byte gets through
	for _, s := range []string{
		strings.Repeat("[", many), strings.Repeat("(", many), strings.Repeat("(~", many), strings.Repeat("1<", many),
		strings.Repeat("[", many) + "~" + strings.Repeat("]", many), `"` + strings.Repeat("a", many) + `"`, `"` + strings.Repeat("a", many),
		strings.Repeat("~", many), strings.Repeat(`"`, many),
	} {
		if d, ok := impl.ParseDoc(s); ok || !isZeroDoc(d) {
			t.Errorf("ParseDoc of %.5q.. = %v, %v", s, d, ok)
		}
	}
}

// TestAllShortTexts compares ParseDoc with the list of all documents: it reads their texts and no others.
func TestAllShortTexts(t *testing.T) {
	const alphabet, most = "~_.!\"a()[]<>2", 6
	want := map[string]impl.Doc{}
	for _, list := range docsByLength(most, alphabet) {
		for _, d := range list {
			want[textOf(d)] = d
			if got := impl.FormatDoc(d); got != textOf(d) {
				t.Fatalf("FormatDoc = %q, want %q", got, textOf(d))
			}
		}
	}
	found := 0
	var try func(text string)
	try = func(text string) {
		x, ok := impl.ParseDoc(text)
		d, known := want[text]
		if ok != known || ok && !impl.DocSame(x, d) || !ok && !isZeroDoc(x) {
			t.Fatalf("ParseDoc(%q) = %v, %v", text, x, ok)
		}
		if ok {
			found++
		}
		for i := 0; len(text) < most && i < len(alphabet); i++ {
			try(text + alphabet[i:i+1])
		}
	}
	try("")
	if found != len(want) || found < 1000 {
		t.Errorf("ParseDoc reads %d of %d documents", found, len(want))
	}
}

func TestReadBackLongerTexts(t *testing.T) {
	for _, list := range docsByLength(10, "~_\"a[2") {
		for _, d := range list {
			text := impl.FormatDoc(d)
			if x, ok := impl.ParseDoc(text); text != textOf(d) || !ok || !impl.DocSame(x, d) {
				t.Fatalf("ParseDoc(%q) = %v, %v", text, x, ok)
			}
		}
	}
}

func TestDocSameFields(t *testing.T) {
	node := func() impl.Doc { return impl.Doc{Op: 7, N: 3, Text: "t", Kids: []impl.Doc{word("a"), word("b")}} }
	changes := map[string]func(*impl.Doc){
		"Op":         func(d *impl.Doc) { d.Op = 8 },
		"N":          func(d *impl.Doc) { d.N = -3 },
		"Text":       func(d *impl.Doc) { d.Text = "T" },
		"empty Text": func(d *impl.Doc) { d.Text = "" },
		"fewer Kids": func(d *impl.Doc) { d.Kids = d.Kids[:1] },
		"no Kids":    func(d *impl.Doc) { d.Kids = nil },
		"more Kids":  func(d *impl.Doc) { d.Kids = append(d.Kids, leaf(1)) },
		"first Kid":  func(d *impl.Doc) { d.Kids[0] = leaf(1) },
		"last Kid":   func(d *impl.Doc) { d.Kids[1].Text = "c" },
		"order":      func(d *impl.Doc) { d.Kids[0], d.Kids[1] = d.Kids[1], d.Kids[0] },
	}
	for name, change := range changes {
		other := node()
		change(&other)
		for _, around := range layers() {
			for n := range 4 {
				a, b, c := deep(n, node(), around), deep(n, other, around), deep(n, node(), around)
				if !impl.DocSame(a, a) || !impl.DocSame(a, c) || impl.DocSame(a, b) || impl.DocSame(b, a) {
					t.Errorf("%s, %d deep: DocSame is wrong", name, n)
				}
			}
		}
	}
}

func TestDocSameInPairs(t *testing.T) {
	var all []impl.Doc
	for _, list := range docsByLength(7, "~_\"a[2") {
		all = append(all, list...)
	}
	for i, a := range all {
		for j, b := range all {
			if impl.DocSame(a, b) != (i == j) {
				t.Fatalf("DocSame of %s and %s = %v", textOf(a), textOf(b), i != j)
			}
		}
	}
}

func TestSizesAndOps(t *testing.T) {
	for _, c := range []struct {
		text string
		size int
		ops  [10]int
		flat bool
	}{
		{"~", 1, [10]int{1: 1}, true},
		{"!", 1, [10]int{5: 1}, false},
		{"(_.)", 3, [10]int{3: 1, 4: 1, 7: 1}, true},
		{`[("a"(_"b"))]`, 6, [10]int{2: 2, 3: 1, 7: 2, 8: 1}, true},
		{`[("a"(_2<("b"!)>))]`, 9, [10]int{2: 2, 3: 1, 5: 1, 6: 1, 7: 3, 8: 1}, false},
		{"9<[0<[(~(!~))]>]>", 9, [10]int{1: 2, 5: 1, 6: 2, 7: 2, 8: 2}, false},
		{"((.~)(~.))", 7, [10]int{1: 2, 4: 2, 7: 3}, true},
	} {
		d := parsed(t, c.text)
		if impl.DocSize(d) != c.size || impl.CanFlatten(d) != c.flat {
			t.Errorf("%s: DocSize = %d, CanFlatten = %v", c.text, impl.DocSize(d), impl.CanFlatten(d))
		}
		for op, want := range c.ops {
			if got := impl.CountOps(d, op); got != want {
				t.Errorf("%s: CountOps of %d = %d, want %d", c.text, op, got, want)
			}
		}
		if impl.CountOps(d, -1) != 0 || impl.CountOps(d, 1<<40) != 0 {
			t.Errorf("%s: CountOps counts an Op that is not there", c.text)
		}
	}
}

func TestSizesOfInvalidDocs(t *testing.T) {
	odd := impl.Doc{Op: -4, N: 50, Text: "A", Kids: []impl.Doc{{}, {Op: 5, Kids: []impl.Doc{{Op: 5}, {Op: -4}, {}}}, {Op: 99}}}
	if impl.DocSize(odd) != 7 || impl.DocSize(impl.Doc{}) != 1 || impl.CanFlatten(odd) || impl.CanFlatten(impl.Doc{}) {
		t.Errorf("DocSize = %d and %d", impl.DocSize(odd), impl.DocSize(impl.Doc{}))
	}
	for op, want := range map[int]int{-4: 2, 0: 2, 5: 2, 99: 1, 1: 0} {
		if got := impl.CountOps(odd, op); got != want {
			t.Errorf("CountOps of %d = %d, want %d", op, got, want)
		}
	}
	if c := roomy(odd); !impl.DocSame(odd, c) || !impl.DocSame(c, odd) || impl.DocSame(odd, impl.Doc{}) || !impl.DocSame(impl.Doc{}, impl.Doc{}) {
		t.Error("DocSame of invalid documents is wrong")
	}
}

func TestCatDocs(t *testing.T) {
	texts := []string{"~", "_", "!", `"a"`, "3<_>", `[("a"(_"b"))]`, "((~~)~)"}
	for _, a := range texts {
		for _, b := range texts {
			c, ok := impl.CatDocs(parsed(t, a), parsed(t, b))
			if !ok || impl.FormatDoc(c) != "("+a+b+")" {
				t.Errorf("CatDocs of %s and %s = %v, %v", a, b, c, ok)
			}
		}
	}
}

func TestCatDocsLimits(t *testing.T) {
	for _, c := range []struct {
		a, b impl.Doc
		want bool
	}{
		{wide(39), wide(40), true},
		{wide(78), wide(1), true},
		{wide(40), wide(40), false},
		{wide(1), wide(79), false},
		{wide(80), wide(1), false},
		{wide(1), wide(81), false},
		{deep(38, leaf(1), group), leaf(1), true},
		{leaf(1), deep(38, leaf(1), group), true},
		{deep(39, leaf(1), group), leaf(1), false},
		{leaf(1), deep(39, leaf(1), group), false},
		{impl.Doc{}, leaf(1), false},
		{leaf(1), impl.Doc{}, false},
		{leaf(1), group(word("")), false},
		{nest(10, leaf(1)), leaf(1), false},
	} {
		d, ok := impl.CatDocs(c.a, c.b)
		if ok != c.want || ok && !impl.DocSame(d, cat(c.a, c.b)) || !ok && !isZeroDoc(d) {
			t.Errorf("CatDocs(%v, %v) = %v, %v", c.a, c.b, d, ok)
		}
	}
}
