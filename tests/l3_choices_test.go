package tests

import (
	"fmt"
	"math"
	"testing"

	"loop.example/docalgebra/impl"
)

func TestChoiceConstants(t *testing.T) {
	if impl.MaxLayouts != 300 {
		t.Errorf("MaxLayouts = %d", impl.MaxLayouts)
	}
}

func TestKnownChoices(t *testing.T) {
	for text, want := range map[string][][]impl.Row{
		"~":                        {lines("")},
		"_":                        {lines("", "")},
		".":                        {lines("", "")},
		"!":                        {lines("", "")},
		`"a"`:                      {lines("a")},
		"4<.>":                     {{row(0, ""), row(4, "")}},
		`("a"(_"b"))`:              {lines("a", "b")},
		"[~]":                      {lines(""), lines("")},
		`["a"]`:                    {lines("a"), lines("a")},
		"[_]":                      {lines(" "), lines("", "")},
		"[.]":                      {lines(""), lines("", "")},
		"[!]":                      {lines("", "")},
		"[(.!)]":                   {lines("", "", "")},
		"[[_]]":                    {lines(" "), lines(" "), lines("", "")},
		"[[[!]]]":                  {lines("", "")},
		`[("a"(_"b"))]`:            {lines("a b"), lines("a", "b")},
		`[("a"(_["b"]))]`:          {lines("a b"), lines("a", "b"), lines("a", "b")},
		`[("a"(_[("b"(."c"))]))]`:  {lines("a bc"), lines("a", "bc"), lines("a", "b", "c")},
		`[("a"(_[("b"(!"c"))]))]`:  {lines("a", "b", "c")},
		`[("a"(![("b"(_"c"))]))]`:  {lines("a", "b c"), lines("a", "b", "c")},
		`[([("b"(_"c"))](!"a"))]`:  {lines("b c", "a"), lines("b", "c", "a")},
		`([(!"a")][("b"(_"c"))])`:  {lines("", "ab c"), lines("", "ab", "c")},
		`[[([_][!])]]`:             {lines(" ", ""), lines("", "", "")},
		`3<[("a"(_"b"))]>`:         {lines("a b"), {row(0, "a"), row(3, "b")}},
		`[("a"3<(_"b")>)]`:         {lines("a b"), {row(0, "a"), row(3, "b")}},
		`2<("a"(3<[(_"b")]>"c"))>`: {lines("a bc"), {row(0, "a"), row(5, "bc")}},
		`([_][.])`:                 {lines(" "), lines(" ", ""), lines("", ""), lines("", "", "")},
		`(["a"]["b"])`:             {lines("ab"), lines("ab"), lines("ab"), lines("ab")},
		`([.]2<[.]>)`:              {lines(""), {row(0, ""), row(2, "")}, lines("", ""), {row(0, ""), row(0, ""), row(2, "")}},
		`([[_]]["a"])`:             {lines(" a"), lines(" a"), lines(" a"), lines(" a"), lines("", "a"), lines("", "a")},
		`([_]([.]"a"))`:            {lines(" a"), lines(" ", "a"), lines("", "a"), lines("", "", "a")},
		`(([_][.])"a")`:            {lines(" a"), lines(" ", "a"), lines("", "a"), lines("", "", "a")},
		`([("aa"(_"b"))]2<[("c"(."d"))]>)`: {
			lines("aa bcd"), {row(0, "aa bc"), row(2, "d")}, lines("aa", "bcd"), {row(0, "aa"), row(0, "bc"), row(2, "d")},
		},
	} {
		checkChoices(t, parsed(t, text), want)
	}
}

func TestKnownLeastLayouts(t *testing.T) {
	for _, c := range []struct {
		text                string
		narrowest, shortest []impl.Row
	}{
		{`[("a"(_"b"))]`, lines("a", "b"), lines("a b")},
		{`("aaaaa"(_[("b"(_"c"))]))`, lines("aaaaa", "b c"), lines("aaaaa", "b c")},
		{`("aaaa"(_[("b"(_"ccc"))]))`, lines("aaaa", "b", "ccc"), lines("aaaa", "b ccc")},
		{`([("aa"(_"b"))][("c"(_"d"))])`, lines("aa", "bc", "d"), lines("aa bc d")},
		{`([("aaaa"(_"b"))][("c"(_"d"))])`, lines("aaaa", "bc d"), lines("aaaa bc d")},
		{`([("aa"(_"b"))][("c"(_"dddd"))])`, lines("aa", "bc", "dddd"), lines("aa bc dddd")},
		{`([("a"(_"bb"))][("cc"(_"d"))])`, lines("a", "bbcc", "d"), lines("a bbcc d")},
		{`([("aaa"(_"b"))][("c"(_"ddd"))])`, lines("aaa", "bc", "ddd"), lines("aaa bc ddd")},
		{`("a"9<[(_"b")]>)`, lines("a b"), lines("a b")},
		{`[("a"9<(_"b")>)]`, lines("a b"), lines("a b")},
		{`[("a"9<_>)]`, []impl.Row{row(0, "a"), row(9, "")}, lines("a ")},
		{`[("a"9<.>)]`, lines("a"), lines("a")},
		{`[[~]]`, lines(""), lines("")},
		{`("a"!)`, lines("a", ""), lines("a", "")},
	} {
		d := parsed(t, c.text)
		l, ok := impl.Narrowest(d)
		checkRows(t, fmt.Sprintf("Narrowest(%s)", c.text), l, ok, c.narrowest)
		l, ok = impl.Shortest(d)
		checkRows(t, fmt.Sprintf("Shortest(%s)", c.text), l, ok, c.shortest)
	}
}

func TestShortDocChoices(t *testing.T) {
	for _, list := range docsByLength(9, "~_\"a[2") {
		for _, d := range list {
			checkChoices(t, d, choicesOf(d))
		}
	}
}

// choiceParts are documents that have several choices together.
func choiceParts(t *testing.T) []impl.Doc {
	var out []impl.Doc
	for _, text := range []string{"~", `"a"`, "!", `2<(_"b")>`, `[("c"(."dd"))]`, `[("e"(_["f"]))]`, `3<[(.[_])]>`, `[("g"(![("h"(_"i"))]))]`} {
		out = append(out, parsed(t, text))
	}
	return out
}

func TestJoinedDocChoices(t *testing.T) {
	all := choiceParts(t)
	for _, a := range all {
		for _, b := range all {
			for _, c := range all {
				for _, d := range []impl.Doc{cat(a, cat(b, c)), cat(cat(a, b), c), group(cat(a, nest(2, cat(b, group(c))))), nest(1, cat(group(cat(a, b)), group(c)))} {
					checkChoices(t, d, choicesOf(d))
				}
			}
		}
	}
}

// TestChoicesByParts compares the choices of a document with what CatLayouts, NestLayout and FlatText make of its parts.
func TestChoicesByParts(t *testing.T) {
	for _, a := range choiceParts(t) {
		first, _ := impl.LayoutsOf(a)
		var nested, grouped [][]impl.Row
		if s, ok := impl.FlatText(a); ok {
			grouped = append(grouped, lines(s))
		}
		for _, l := range first {
			more, _ := impl.NestLayout(7, l)
			nested, grouped = append(nested, more), append(grouped, l)
		}
		checkChoices(t, nest(7, a), nested)
		checkChoices(t, group(a), grouped)
		for _, b := range choiceParts(t) {
			var joined [][]impl.Row
			second, _ := impl.LayoutsOf(b)
			for _, x := range first {
				for _, y := range second {
					l, _ := impl.CatLayouts(x, y)
					joined = append(joined, l)
				}
			}
			checkChoices(t, cat(a, b), joined)
		}
	}
}

// TestLastChoiceIsOpen holds for all documents, as a group is flattened in the choice before all others.
func TestLastChoiceIsOpen(t *testing.T) {
	for _, list := range docsByLength(9, "~_\"a[2") {
		for _, d := range list {
			n, _ := impl.CountChoices(d)
			open, _ := impl.OpenLayout(d)
			checkChoice(t, d, n-1, open)
		}
	}
}

func TestHasLayout(t *testing.T) {
	d := parsed(t, `([("a"(_"b"))]2<[("c"(."d"))]>)`)
	for _, l := range choicesOf(d) {
		checkHas(t, d, l)
	}
	others := map[string][]impl.Row{
		"only the front": lines("a b"),
		"more lines":     {row(0, "a"), row(0, "bc"), row(2, "d"), row(0, "")},
		"fewer lines":    lines("a", "bc"),
		"other Indent":   {row(0, "a"), row(0, "bc"), row(1, "d")},
		"the same text":  {row(0, "a"), row(0, "bc"), row(0, "  d")},
		"one empty line": lines(""),
	}
	for name, l := range noLayouts() {
		others[name] = l
	}
	for name, l := range others {
		if impl.HasLayout(d, l) {
			t.Errorf("%s: HasLayout(.., %s) = true", name, show(l))
		}
	}
	if e := parsed(t, `("a"2<_>)`); !impl.HasLayout(e, []impl.Row{row(0, "a"), row(2, "")}) || impl.HasLayout(e, lines("a", "")) {
		t.Error("HasLayout of an empty line with an indentation is wrong")
	}
}

// TestChoiceLimit has documents whose choices are as many as can be counted, and more.
func TestChoiceLimit(t *testing.T) {
	line := leaf(impl.OpLine)
	most, hard := product(line, 5, 5, 5, 5, 5, 2, 2, 2, 2, 2), leaf(impl.OpHard)
	two, more := group(leaf(impl.OpBreak)), group(most)
	for name, c := range map[string]struct {
		d    impl.Doc
		want int
	}{
		"most":              {most, 100000},
		"most, others":      {product(line, 25, 20, 20, 10), 100000},
		"nearly most":       {product(line, 18, 18, 18, 17), 99144},
		"most of a group":   {group(product(line, 9, 11, 2, 5, 11, 9)), 98011},
		"in a nest":         {nest(3, most), 100000},
		"in front":          {cat(most, word("a")), 100000},
		"behind":            {cat(word("a"), most), 100000},
		"group with hard":   {group(cat(most, hard)), 100000},
		"groups with hard":  {groups(3, cat(hard, most)), 100000},
		"one more":          {more, 0},
		"two more":          {group(more), 0},
		"one more, nested":  {nest(3, more), 0},
		"one more in front": {cat(more, word("a")), 0},
		"one more behind":   {cat(word("a"), more), 0},
		"one more and hard": {group(cat(more, hard)), 0},
		"twice, in front":   {cat(two, most), 0},
		"twice, behind":     {cat(most, two), 0},
		"twice, nested":     {nest(1, cat(nest(1, most), two)), 0},
		"nearly most twice": {product(line, 18, 18, 18, 18), 0},
		"more than 32 bits": {product(line, 4, 4, 4, 4, 4, 4, 4, 4, 4, 4, 4, 4, 4, 4, 4, 4), 0},
		"very many":         {product(line, 5, 5, 5, 5, 5, 5, 5, 5, 5, 5, 5, 5, 5), 0},
	} {
		if !impl.DocValid(c.d) {
			t.Fatalf("%s: the test's document is not valid", name)
		}
		if n, ok := impl.CountChoices(c.d); n != c.want || ok != (c.want > 0) {
			t.Errorf("%s: CountChoices = %d, %v, want %d", name, n, ok, c.want)
		}
		open := laidOut(c.d)
		checkNotTold(t, name, c.d, open)
		if c.want == 0 {
			checkChoice(t, c.d, 0, nil)
			open = nil
		}
		checkChoice(t, c.d, 99999, map[bool][]impl.Row{true: open}[c.want == 100000])
		checkChoice(t, c.d, c.want-1, open)
		checkChoice(t, c.d, c.want, nil)
	}
}

func TestChoicesOfMany(t *testing.T) {
	part := cat(word("a"), leaf(impl.OpLine))
	d := product(part, 10, 5, 5, 4, 5, 4, 5)
	want := choicesOf(d)
	if len(want) != 100000 || !impl.DocValid(d) {
		t.Fatal("the test's document is wrong")
	}
	for n := 0; n < len(want); n += 97 {
		checkChoice(t, d, n, want[n])
	}
	for _, n := range []int{0, 1, 2, 19999, 20000, 49999, 50000, 99998, 99999} {
		checkChoice(t, d, n, want[n])
	}
	for _, n := range []int{math.MinInt, -100000, -2, -1, 100000, 100001, 199999, 1 << 32, math.MaxInt} {
		checkChoice(t, d, n, nil)
	}
}

func TestChoiceNumbers(t *testing.T) {
	for _, d := range choiceParts(t) {
		want := choicesOf(d)
		for _, n := range []int{math.MinInt, -1 << 32, -300, -len(want), -1, len(want), len(want) + 1, 300, 1 << 32, math.MaxInt} {
			checkChoice(t, d, n, nil)
		}
		checkChoice(t, d, 0, want[0])
		checkChoice(t, d, len(want)-1, want[len(want)-1])
	}
}

func TestLayoutsLimit(t *testing.T) {
	for _, bottom := range []impl.Doc{leaf(impl.OpLine), leaf(impl.OpEmpty), word("a"), cat(word("a"), leaf(impl.OpBreak))} {
		for _, c := range []struct {
			d    impl.Doc
			want int
		}{
			{product(bottom, 23, 13), 299},
			{product(bottom, 20, 15), 300},
			{product(bottom, 3, 4, 5, 5), 300},
			{group(product(bottom, 23, 13)), 300},
			{nest(2, product(bottom, 15, 20)), 300},
			{group(product(bottom, 20, 15)), 301},
			{product(bottom, 7, 7, 6), 294},
			{product(bottom, 18, 17), 306},
			{cat(product(bottom, 20, 15), group(leaf(impl.OpBreak))), 600},
		} {
			if want := choicesOf(c.d); len(want) != c.want || !impl.DocValid(c.d) {
				t.Fatalf("the test's document has %d choices", len(want))
			}
			checkChoices(t, c.d, choicesOf(c.d))
		}
	}
}

func TestGreatDocChoices(t *testing.T) {
	for name, d := range greatChoiceDocs() {
		if !impl.DocValid(d) {
			t.Fatalf("%s: the test's document is not valid", name)
		}
		checkChoices(t, d, choicesOf(d))
	}
}

func TestChoicesOfNoDocs(t *testing.T) {
	for name, d := range noDocs() {
		if n, ok := impl.CountChoices(d); ok || n != 0 {
			t.Errorf("%s: CountChoices = %d, %v", name, n, ok)
		}
		for _, n := range []int{-1, 0, 1} {
			l, ok := impl.ChoiceOf(d, n)
			checkRows(t, name+": ChoiceOf", l, ok, nil)
		}
		for _, l := range [][]impl.Row{nil, {}, lines(""), lines("", "")} {
			checkNotTold(t, name, d, l)
		}
	}
}
