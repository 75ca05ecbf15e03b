package tests

import (
	"math"
	"math/rand/v2"
	"slices"
	"strings"
	"testing"

	"loop.example/docalgebra/impl"
)

// parsedAll are the documents of some texts.
func parsedAll(t *testing.T, texts ...string) []impl.Doc {
	t.Helper()
	var out []impl.Doc
	for _, text := range texts {
		out = append(out, parsed(t, text))
	}
	return out
}

// TestKnownCombinations has lists with what StackDocs, SepDocs and FillDocs make of them, and PunctuateDocs with `,`.
func TestKnownCombinations(t *testing.T) {
	for _, c := range []struct {
		list             []string
		stack, sep, fill string
		punctuated       []string
	}{
		// none, and one
		{nil, "~", "[~]", "~", nil},
		{[]string{`"a"`}, `"a"`, `["a"]`, `"a"`, []string{`"a"`}},
		{[]string{"~"}, "~", "[~]", "~", []string{"~"}},
		{[]string{"!"}, "!", "[!]", "!", []string{"!"}},
		{[]string{`[("a"(_"b"))]`}, `[("a"(_"b"))]`, `[[("a"(_"b"))]]`, `[("a"(_"b"))]`, []string{`[("a"(_"b"))]`}},
		// several
		{[]string{`"a"`, `"b"`}, `("a"(!"b"))`, `[("a"(_"b"))]`, `("a"[(_"b")])`, []string{`("a"",")`, `"b"`}},
		{[]string{`"a"`, `"b"`, `"c"`}, `("a"(!("b"(!"c"))))`, `[("a"(_("b"(_"c"))))]`, `("a"([(_"b")][(_"c")]))`, []string{`("a"",")`, `("b"",")`, `"c"`}},
		{
			[]string{`"a"`, `"b"`, `"c"`, `"d"`}, `("a"(!("b"(!("c"(!"d"))))))`, `[("a"(_("b"(_("c"(_"d"))))))]`,
			`("a"([(_"b")]([(_"c")][(_"d")])))`, []string{`("a"",")`, `("b"",")`, `("c"",")`, `"d"`},
		},
		// that are empty, or equal
		{[]string{"~", "~"}, "(~(!~))", "[(~(_~))]", "(~[(_~)])", []string{`(~",")`, "~"}},
		{[]string{`"a"`, `"a"`}, `("a"(!"a"))`, `[("a"(_"a"))]`, `("a"[(_"a")])`, []string{`("a"",")`, `"a"`}},
		// with newlines
		{[]string{"_", ".", "!"}, "(_(!(.(!!))))", "[(_(_(.(_!))))]", "(_([(_.)][(_!)]))", []string{`(_",")`, `(.",")`, "!"}},
		{[]string{`"a"`, `("b"(!"c"))`}, `("a"(!("b"(!"c"))))`, `[("a"(_("b"(!"c"))))]`, `("a"[(_("b"(!"c")))])`, []string{`("a"",")`, `("b"(!"c"))`}},
		{[]string{`("b"!)`, `"a"`}, `(("b"!)(!"a"))`, `[(("b"!)(_"a"))]`, `(("b"!)[(_"a")])`, []string{`(("b"!)",")`, `"a"`}},
		// of two, in groups and in nests
		{[]string{`("a"_)`, `(_"b")`}, `(("a"_)(!(_"b")))`, `[(("a"_)(_(_"b")))]`, `(("a"_)[(_(_"b"))])`, []string{`(("a"_)",")`, `(_"b")`}},
		{[]string{"[_]", "2<_>"}, "([_](!2<_>))", "[([_](_2<_>))]", "([_][(_2<_>)])", []string{`([_]",")`, "2<_>"}},
	} {
		list := parsedAll(t, c.list...)
		for i, want := range []string{c.stack, c.sep, c.fill} {
			if got, ok := combiners()[i].call(list); !isMade(got, ok, want) {
				t.Errorf("%s of %q = %v, %v, want %s", combiners()[i].name, c.list, got, ok, want)
			}
		}
		got, ok := impl.PunctuateDocs(",", list)
		if !ok || len(got) != len(c.punctuated) {
			t.Fatalf("PunctuateDocs of %q = %v, %v", c.list, got, ok)
		}
		for i, want := range c.punctuated {
			if !isMade(got[i], ok, want) {
				t.Errorf("PunctuateDocs of %q has %v as %d, want %s", c.list, got[i], i, want)
			}
		}
		checkCombined(t, list, upTo(12)...)
	}
}

func TestKnownPunctuations(t *testing.T) {
	list := parsedAll(t, `"a"`, "[_]", "!")
	for text, want := range map[string]string{
		",": `("a"",") ([_]",") !`, "abcdefghijkl": `("a""abcdefghijkl") ([_]"abcdefghijkl") !`, "]": `("a""]") ([_]"]") !`, "=(": `("a""=(") ([_]"=(") !`,
	} {
		var texts []string
		got, ok := impl.PunctuateDocs(text, list)
		for _, d := range got {
			texts = append(texts, impl.FormatDoc(d))
		}
		if s := strings.Join(texts, " "); !ok || s != want {
			t.Errorf("PunctuateDocs(%q) = %s, %v, want %s", text, s, ok, want)
		}
		checkPunctuated(t, text, list)
	}
}

func TestKnownBrackets(t *testing.T) {
	for _, c := range []struct {
		left  string
		n     int
		d     string
		right string
		want  string
	}{
		{"f(", 2, `"x"`, ")", `[("f("(2<(."x")>(.")")))]`},
		{"[", 0, "~", "]", `[("["(0<(.~)>(."]")))]`},
		{"{", 9, `("a"(_"b"))`, "}", `[("{"(9<(.("a"(_"b")))>(."}")))]`},
		{"a", 1, "!", "a", `[("a"(1<(.!)>(."a")))]`},
		{"abcdefghijkl", 4, `[("a"_)]`, "mnopqrstuvwx", `[("abcdefghijkl"(4<(.[("a"_)])>(."mnopqrstuvwx")))]`},
		{"(", 3, "2<_>", ")", `[("("(3<(.2<_>)>(.")")))]`},
	} {
		d := parsed(t, c.d)
		if got, ok := impl.BracketDoc(c.left, c.n, d, c.right); !isMade(got, ok, c.want) {
			t.Errorf("BracketDoc(%q, %d, %s, %q) = %v, %v, want %s", c.left, c.n, c.d, c.right, got, ok, c.want)
		}
		checkAround(t, c.left, c.n, d, c.right, upTo(40)...)
	}
}

func TestKnownHangs(t *testing.T) {
	for _, c := range []struct {
		text string
		n    int
		d    string
		want string
	}{
		{"x=", 4, `"abc"`, `[("x="4<(_"abc")>)]`},
		{"a", 0, "~", `[("a"0<(_~)>)]`},
		{"k:", 9, `("a"(_"b"))`, `[("k:"9<(_("a"(_"b")))>)]`},
		{"a", 1, `("b"(!"c"))`, `[("a"1<(_("b"(!"c")))>)]`},
		{"abcdefghijkl", 2, "[_]", `[("abcdefghijkl"2<(_[_])>)]`},
		{"a", 2, "3<_>", `[("a"2<(_3<_>)>)]`},
	} {
		d := parsed(t, c.d)
		if got, ok := impl.HangDoc(c.text, c.n, d); !isMade(got, ok, c.want) {
			t.Errorf("HangDoc(%q, %d, %s) = %v, %v, want %s", c.text, c.n, c.d, got, ok, c.want)
		}
		checkAround(t, c.text, c.n, d, "}", upTo(40)...)
	}
}

func TestKnownRepeats(t *testing.T) {
	for _, c := range []struct {
		text  string
		count int
		want  string
	}{
		{"a", 0, "~"}, {"a", 1, `"a"`}, {"a", 2, `("a"(."a"))`}, {"a", 3, `("a"(.("a"(."a"))))`},
		{"ab", 4, `("ab"(.("ab"(.("ab"(."ab"))))))`}, {"abcdefghijkl", 2, `("abcdefghijkl"(."abcdefghijkl"))`}, {"(", 2, `("("(."("))`},
		{"=", 20, strings.Repeat(`("="(.`, 19) + `"="` + strings.Repeat("))", 19)},
	} {
		if got, ok := impl.RepeatText(c.text, c.count); !isMade(got, ok, c.want) {
			t.Errorf("RepeatText(%q, %d) = %v, %v, want %s", c.text, c.count, got, ok, c.want)
		}
		checkRepeat(t, c.text, c.count, 0, 1, 20, 200)
	}
}

// TestKnownCombinedLayouts has the texts of combinations, some of them of others, in some widths.
func TestKnownCombinedLayouts(t *testing.T) {
	must := func(d impl.Doc, ok bool) impl.Doc {
		if !ok {
			t.Fatal("a combination is not made")
		}
		return d
	}
	words := parsedAll(t, `"aa"`, `"bb"`, `"cc"`, `"dd"`)
	stays := parsedAll(t, `"aa"`, `("b"(!"c"))`, `"dd"`, `"ee"`)
	parts, _ := impl.PunctuateDocs(",", words)
	stack, sep, fill := must(impl.StackDocs(words)), must(impl.SepDocs(words)), must(impl.FillDocs(words))
	hardSep, hardFill := must(impl.SepDocs(stays)), must(impl.FillDocs(stays))
	hang, repeat := must(impl.HangDoc("x=", 4, fill)), must(impl.RepeatText("ab", 3))
	call := must(impl.BracketDoc("f(", 2, must(impl.SepDocs(parts)), ")"))
	for _, c := range []struct {
		name  string
		d     impl.Doc
		width int
		want  string
	}{
		{"stack", stack, 200, "aa\nbb\ncc\ndd"}, {"stack in a group", group(stack), 200, "aa\nbb\ncc\ndd"},
		{"sep", sep, 11, "aa bb cc dd"}, {"sep", sep, 10, "aa\nbb\ncc\ndd"},
		{"fill", fill, 11, "aa bb cc dd"}, {"fill", fill, 10, "aa bb cc\ndd"}, {"fill", fill, 8, "aa bb cc\ndd"}, {"fill", fill, 7, "aa bb\ncc dd"},
		{"fill", fill, 5, "aa bb\ncc dd"}, {"fill", fill, 4, "aa\nbb\ncc\ndd"}, {"fill", fill, 0, "aa\nbb\ncc\ndd"},
		{"sep with a newline that stays", hardSep, 200, "aa\nb\nc\ndd\nee"},
		{"fill with a newline that stays", hardFill, 200, "aa\nb\nc dd ee"}, {"fill with a newline that stays", hardFill, 6, "aa\nb\nc dd\nee"},
		{"fill with a newline that stays", hardFill, 3, "aa\nb\nc\ndd\nee"},
		{"hang", hang, 14, "x= aa bb cc dd"}, {"hang", hang, 13, "x=\n    aa bb cc\n    dd"}, {"hang", hang, 4, "x=\n    aa\n    bb\n    cc\n    dd"},
		{"repeat", repeat, 200, "ab\nab\nab"}, {"repeat in a group", group(repeat), 6, "ababab"}, {"repeat in a group", group(repeat), 5, "ab\nab\nab"},
		{"call", call, 17, "f(aa, bb, cc, dd)"}, {"call", call, 16, "f(\n  aa, bb, cc, dd\n)"}, {"call", call, 15, "f(\n  aa,\n  bb,\n  cc,\n  dd\n)"},
	} {
		if s, ok := impl.RenderText(c.d, c.width); !ok || s != c.want {
			t.Errorf("%s in %d is %q, %v, want %q", c.name, c.width, s, ok, c.want)
		}
	}
}

// TestNewlinesThatStay has a fill with an OpHard at each place of a document, and this document at each place of it.
func TestNewlinesThatStay(t *testing.T) {
	for _, text := range []string{
		"!", "[!]", "2<!>", `("bb"!)`, `(!"bb")`, `("b"(!"c"))`, `[("b"(!"c"))]`, `3<("b"(!"c"))>`, `(!!)`, `([("b"(_"c"))](!"d"))`, `("b"(!([(_"c")]"d")))`,
	} {
		hard := parsed(t, text)
		for k := 1; k <= 5; k++ {
			for i := range k {
				list := slices.Repeat(parsedAll(t, `"aa"`), k)
				list[i] = hard
				checkCombined(t, list, upTo(16)...)
				d, ok := impl.FillDocs(list)
				if !ok || impl.CountOps(d, impl.OpHard) != impl.CountOps(hard, impl.OpHard) || impl.CountOps(d, impl.OpLine) != k-1+impl.CountOps(hard, impl.OpLine) {
					t.Errorf("FillDocs with %s at %d of %d = %v, %v", text, i, k, d, ok)
				}
			}
		}
	}
}

func TestShortCombinations(t *testing.T) {
	docs := slices.Concat(docsByLength(5, "~_\"a[2")...)
	for _, a := range docs {
		checkCombined(t, []impl.Doc{a}, upTo(8)...)
		checkAround(t, "ab", 2, a, "c", upTo(10)...)
		for _, b := range docs {
			checkCombined(t, []impl.Doc{a, b}, 0, 1, 2, 3, 4, 9)
		}
	}
	for _, a := range docs[:24] {
		for _, b := range docs[:24] {
			for _, c := range docs[:24] {
				checkCombined(t, []impl.Doc{a, b, c}, 1, 3)
			}
		}
	}
}

func TestAnyCombinations(t *testing.T) {
	r := rand.New(rand.NewPCG(9, 9))
	for range 1500 {
		var list []impl.Doc
		for range r.IntN(8) {
			list = append(list, anyDoc(r, 1+r.IntN(1+r.IntN(20)), 12))
		}
		checkCombined(t, list, 0, r.IntN(12), r.IntN(40), r.IntN(201), 200)
	}
	for range 1500 {
		d := anyDoc(r, 1+r.IntN(60), 30)
		left, right := signs(45)[r.IntN(30):][:1+r.IntN(12)], signs(45)[r.IntN(30):][:1+r.IntN(12)]
		checkAround(t, left, r.IntN(10), d, right, 0, r.IntN(12), r.IntN(40), r.IntN(201), 200)
	}
}

// TestCombinationsOfCombinations makes documents of the results of others, as long as they are valid.
func TestCombinationsOfCombinations(t *testing.T) {
	r := rand.New(rand.NewPCG(9, 90))
	for range 150 {
		docs := []impl.Doc{word("aa"), group(cat(word("b"), cat(leaf(impl.OpLine), word("ccc"))))}
		for range 8 {
			var list []impl.Doc
			for range 1 + r.IntN(3) {
				list = append(list, docs[r.IntN(len(docs))])
			}
			checkCombined(t, list, 0, r.IntN(20), 40)
			checkAround(t, "f(", 2, list[0], ")", 0, r.IntN(20), 40)
			d, ok := combiners()[r.IntN(3)].call(list)
			if r.IntN(2) == 0 {
				d, ok = impl.BracketDoc("[", 2, list[0], "]")
			}
			if ok {
				docs = append(docs, d)
			}
		}
	}
}

// TestCombinedLists has lists of all lengths of documents of one node, and of an OpText.
func TestCombinedLists(t *testing.T) {
	for n := range 40 {
		for _, d := range []impl.Doc{word("ab"), leaf(impl.OpEmpty), leaf(impl.OpHard)} {
			list := slices.Repeat([]impl.Doc{d}, n)
			checkCombined(t, list, 0, 20, 200)
			for i, most := range []int{19, 19, 16} { // 17 documents have 81 nodes as a fill
				if got, ok := combiners()[i].call(list); ok != (n <= most) {
					t.Errorf("%s of %d documents = %v, %v", combiners()[i].name, n, got, ok)
				}
			}
			if got, ok := impl.PunctuateDocs(",", list); ok != (n <= 19) || ok && len(got) != n {
				t.Errorf("PunctuateDocs of %d documents has %d, %v", n, len(got), ok)
			}
		}
	}
	for _, n := range []int{20, 21, 39, 40, 41, 80, 81, 1000, 1 << 20} {
		checkNotCombined(t, "many", slices.Repeat([]impl.Doc{leaf(impl.OpEmpty)}, n))
		checkNotCombined(t, "many that are not valid", make([]impl.Doc, n))
	}
}

// setting is a function with all arguments but for one document.
type setting struct {
	name          string
	nodes, levels int // how many there are in the result beside this document, and above it
	call          func(impl.Doc) (impl.Doc, bool)
}

// settings have one document in lists of several lengths, at several places.
func settings() []setting {
	at := func(call func([]impl.Doc) (impl.Doc, bool), place, length int) func(impl.Doc) (impl.Doc, bool) {
		return func(d impl.Doc) (impl.Doc, bool) {
			list := slices.Repeat([]impl.Doc{leaf(impl.OpEmpty)}, length)
			list[place] = d
			return call(list)
		}
	}
	punctuate := func(place, length int) func(impl.Doc) (impl.Doc, bool) {
		return at(func(list []impl.Doc) (impl.Doc, bool) {
			got, ok := impl.PunctuateDocs("abcdefghijkl", list)
			if len(got) != len(list) {
				return impl.Doc{}, ok
			}
			return got[place], ok
		}, place, length)
	}
	return []setting{
		{"StackDocs, the only one", 0, 0, at(impl.StackDocs, 0, 1)},
		{"StackDocs, the first of 2", 4, 1, at(impl.StackDocs, 0, 2)},
		{"StackDocs, the last of 2", 4, 2, at(impl.StackDocs, 1, 2)},
		{"StackDocs, the second of 3", 8, 3, at(impl.StackDocs, 1, 3)},
		{"StackDocs, the last of 3", 8, 4, at(impl.StackDocs, 2, 3)},
		{"StackDocs, the first of 19", 72, 1, at(impl.StackDocs, 0, 19)},
		{"StackDocs, the last of 19", 72, 36, at(impl.StackDocs, 18, 19)},
		{"SepDocs, the only one", 1, 1, at(impl.SepDocs, 0, 1)},
		{"SepDocs, the first of 2", 5, 2, at(impl.SepDocs, 0, 2)},
		{"SepDocs, the last of 2", 5, 3, at(impl.SepDocs, 1, 2)},
		{"SepDocs, the second of 3", 9, 4, at(impl.SepDocs, 1, 3)},
		{"SepDocs, the last of 3", 9, 5, at(impl.SepDocs, 2, 3)},
		{"SepDocs, the last of 19", 73, 37, at(impl.SepDocs, 18, 19)},
		{"FillDocs, the only one", 0, 0, at(impl.FillDocs, 0, 1)},
		{"FillDocs, the first of 2", 5, 1, at(impl.FillDocs, 0, 2)},
		{"FillDocs, the last of 2", 5, 3, at(impl.FillDocs, 1, 2)},
		{"FillDocs, the second of 3", 10, 4, at(impl.FillDocs, 1, 3)},
		{"FillDocs, the last of 3", 10, 4, at(impl.FillDocs, 2, 3)},
		{"FillDocs, the last of 10", 45, 11, at(impl.FillDocs, 9, 10)},
		{"FillDocs, the first of 16", 75, 1, at(impl.FillDocs, 0, 16)},
		{"PunctuateDocs, the only one", 0, 0, punctuate(0, 1)},
		{"PunctuateDocs, the first of 2", 2, 1, punctuate(0, 2)},
		{"PunctuateDocs, the last of 2", 0, 0, punctuate(1, 2)},
		{"PunctuateDocs, the second of 3", 2, 1, punctuate(1, 3)},
		{"PunctuateDocs, the 18th of 19", 2, 1, punctuate(17, 19)},
		{"PunctuateDocs, the last of 19", 0, 0, punctuate(18, 19)},
		{"BracketDoc", 10, 5, func(d impl.Doc) (impl.Doc, bool) { return impl.BracketDoc("a", 0, d, "b") }},
		{"HangDoc", 6, 4, func(d impl.Doc) (impl.Doc, bool) { return impl.HangDoc("a", 9, d) }},
	}
}

// TestCombinationsAtLimits has results of 80 nodes and of more, and with 40 levels and with more.
func TestCombinationsAtLimits(t *testing.T) {
	for _, s := range settings() {
		for nodes := 76; nodes <= 84; nodes++ {
			if nodes > s.nodes {
				checkSetting(t, s, wide(nodes-s.nodes), nodes <= 80)
			}
		}
		for deep := 36; deep <= 44; deep++ {
			if layers := deep - 1 - s.levels; layers >= 0 && layers+1+s.nodes <= 80 {
				checkSetting(t, s, groups(layers, leaf(impl.OpLine)), deep <= 40)
				checkSetting(t, s, groups(layers, leaf(impl.OpHard)), deep <= 40)
			}
		}
	}
}

func checkSetting(t *testing.T, s setting, d impl.Doc, want bool) {
	t.Helper()
	got, ok := s.call(d)
	if ok != want || ok && !impl.DocValid(got) || ok && impl.DocSize(got) != impl.DocSize(d)+s.nodes || !ok && !isZeroDoc(got) {
		t.Errorf("%s: a document of %d nodes, %d deep, makes one of %d nodes, %d deep, %v", s.name, impl.DocSize(d), deepness(d), impl.DocSize(got), deepness(got), ok)
	}
}

// TestGreatCombinations has documents of up to 80 nodes and 40 levels in lists.
func TestGreatCombinations(t *testing.T) {
	small := word("ab")
	for _, d := range greatChoiceDocs() {
		for _, list := range [][]impl.Doc{{d}, {d, small}, {small, d}, {small, d, small}, {d, d}} {
			checkCombined(t, list, 0, 40, 200)
		}
		checkAround(t, "(", 2, d, ")", 0, 40, 200)
	}
	for _, d := range anyDocs(300, 91) {
		checkCombined(t, []impl.Doc{d}, 0, 60)
		checkCombined(t, []impl.Doc{d, small}, 0, 60)
		checkCombined(t, []impl.Doc{small, d}, 0, 60)
		checkAround(t, "abc", 3, d, "d", 0, 60)
	}
}

func TestCombinedTexts(t *testing.T) {
	list := parsedAll(t, `"x"`, "_")
	check := func(s string) {
		want := textPattern.MatchString(s)
		for n := range 3 {
			got, ok := impl.PunctuateDocs(s, list[:n])
			if ok != want || ok && len(got) != n || !ok && len(got) > 0 {
				t.Errorf("PunctuateDocs(%.50q) of %d documents = %v, %v", s, n, got, ok)
			}
		}
		if want {
			checkPunctuated(t, s, list)
		}
		checkAround(t, s, 2, list[0], ")", 0, 20)
		checkAround(t, "(", 2, list[0], s, 0, 20)
		checkAround(t, s, 2, list[0], s, 0, 20)
		for _, count := range []int{0, 1, 2, 20} {
			checkRepeat(t, s, count, 0, 200)
		}
	}
	for c := range 256 {
		sign := string([]byte{byte(c)})
		check(sign)
		check("ab" + sign)
		check("abcdefghijk" + sign)
	}
	for n := range 30 {
		check(strings.Repeat("a", n))
	}
	for _, s := range badTexts() {
		check(s)
		if textPattern.MatchString(s) {
			t.Errorf("%q is a text", s)
		}
	}
}

// anyNumbers are numbers at limits and far beyond.
func anyNumbers() []int {
	out := []int{math.MinInt, math.MinInt32, -1000, 256, 1000, 1 << 16, math.MaxInt32, math.MaxInt - 1, math.MaxInt}
	for n := -20; n <= 40; n++ {
		out = append(out, n)
	}
	return out
}

func TestNumbersOfCombinations(t *testing.T) {
	for _, n := range anyNumbers() {
		for _, d := range parsedAll(t, "~", `"abc"`, `("ab"(_"c"))`, `2<("ab"(!"c"))>`) {
			checkAround(t, "f(", n, d, ")", 0, 9, 14, 200)
			_, bracket := impl.BracketDoc("f(", n, d, ")")
			_, hang := impl.HangDoc("f(", n, d)
			if want := n >= 0 && n <= 9; bracket != want || hang != want {
				t.Errorf("%d: BracketDoc = %v, HangDoc = %v", n, bracket, hang)
			}
		}
		for _, s := range []string{"a", "abcdefghijkl"} {
			checkRepeat(t, s, n, 0, 1, 12, 200)
			d, ok := impl.RepeatText(s, n)
			if ok != (n >= 0 && n <= 20) || ok && impl.DocSize(d) != max(1, 4*n-3) || ok && deepness(d) != max(1, 2*n-1) {
				t.Errorf("RepeatText(%q, %d) has %d nodes, %d deep, %v", s, n, impl.DocSize(d), deepness(d), ok)
			}
		}
	}
}

// TestNoneCombined has lists with a document that is not valid at the front, in the middle and at the end.
func TestNoneCombined(t *testing.T) {
	for name, d := range noDocs() {
		for _, n := range []int{1, 2, 3, 5, 16, 19} {
			for _, i := range []int{0, n / 2, n - 1} {
				list := slices.Repeat([]impl.Doc{leaf(impl.OpEmpty)}, n)
				list[i] = d
				checkNotCombined(t, name, list)
			}
		}
		checkNotCombined(t, name+", several", []impl.Doc{d, d, d})
		for _, n := range []int{-1, 0, 2, 9, 10} {
			if got, ok := impl.BracketDoc("a", n, d, "b"); ok || !isZeroDoc(got) {
				t.Errorf("%s: BracketDoc = %v, %v", name, got, ok)
			}
			if got, ok := impl.HangDoc("a", n, d); ok || !isZeroDoc(got) {
				t.Errorf("%s: HangDoc = %v, %v", name, got, ok)
			}
		}
		for _, s := range badTexts() {
			if got, ok := impl.PunctuateDocs(s, []impl.Doc{d}); ok || len(got) > 0 {
				t.Errorf("%s: PunctuateDocs(%.50q) = %v, %v", name, s, got, ok)
			}
		}
	}
}
