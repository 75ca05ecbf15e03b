package tests

import (
	"slices"
	"testing"

	"loop.example/docalgebra/impl"
)

// memoryDocs are documents whose layouts have texts of their own, joined ones, and equal ones.
func memoryDocs(t *testing.T) []impl.Doc {
	var out []impl.Doc
	for _, text := range []string{
		`"abc"`, `["abc"]`, `[["abc"]]`, `3<["abc"]>`, `[("abc"_)]`, `(["abc"]~)`, `(~["abc"])`, `(["abc"]["de"])`,
		`([("abc"(_"d"))]2<[("ef"(."g"))]>)`, `([_]["abc"])`, `("abc"[_])`, `(("abc"!)[_])`, sample,
	} {
		out = append(out, parsed(t, text))
	}
	part := []impl.Doc{group(cat(word("abc"), leaf(impl.OpLine)))}
	twice := impl.Doc{Op: impl.OpCat, Kids: []impl.Doc{{Op: impl.OpNest, N: 1, Kids: part}, {Op: impl.OpNest, N: 2, Kids: part}}}
	return append(out, twice)
}

// layoutsFrom lists all layouts that the functions of the chapter make of d.
func layoutsFrom(d impl.Doc) [][]impl.Row {
	all, _ := impl.LayoutsOf(d)
	distinct, _ := impl.DistinctLayouts(d)
	out := append(slices.Clone(all), distinct...)
	for n := range all {
		l, _ := impl.ChoiceOf(d, n)
		out = append(out, l)
	}
	for _, least := range []func(impl.Doc) ([]impl.Row, bool){impl.Narrowest, impl.Shortest} {
		l, _ := least(d)
		out = append(out, l)
	}
	return out
}

func TestChoiceArgumentsStay(t *testing.T) {
	docs := append(memoryDocs(t), impl.Doc{}, wide(81), groups(5, word("A")), product(leaf(impl.OpLine), 20, 16))
	for _, plain := range docs {
		d := roomy(plain)
		layouts := append(layoutsFrom(plain), nil, lines("A"), lines("abc", ""))
		before := memory(d)
		impl.CountChoices(d)
		layoutsFrom(d)
		impl.ChoiceOf(d, -1)
		impl.ChoiceOf(d, 0)
		for _, l := range layouts {
			l = roomyRows(l)
			rows := rowsMemory(l)
			impl.HasLayout(d, l)
			if rowsMemory(l) != rows {
				t.Fatalf("%v: an argument %s is changed", plain, show(l))
			}
		}
		if memory(d) != before {
			t.Fatalf("an argument %v is changed", plain)
		}
	}
}

func TestChoiceResultsMemory(t *testing.T) {
	for _, d := range memoryDocs(t) {
		checkOwnLayouts(t, d, layoutsFrom)
	}
}

func TestChoiceTextsMemory(t *testing.T) {
	for _, d := range memoryDocs(t) {
		checkOwnTexts(t, slices.Concat(layoutsFrom(d)...), textsIn(d))
	}
}

// TestChoiceListsMemory overwrites a list of layouts, unused capacity too.
func TestChoiceListsMemory(t *testing.T) {
	for _, d := range memoryDocs(t) {
		for _, list := range []func(impl.Doc) ([][]impl.Row, bool){impl.LayoutsOf, impl.DistinctLayouts} {
			first, _ := list(d)
			second, _ := list(d)
			all, _ := impl.LayoutsOf(d)
			want, wantAll := writtenAll(second), writtenAll(all)
			for i := range first[:cap(first)] {
				first[:cap(first)][i] = lines("SCRIBBLED")
			}
			if writtenAll(second) != want || writtenAll(all) != wantAll {
				t.Fatalf("%s: lists of layouts share memory", textOf(d))
			}
		}
	}
}
