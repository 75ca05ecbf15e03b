package tests

import (
	"slices"
	"testing"

	"loop.example/docalgebra/impl"
)

// bestDocs are documents with a best layout of one line, of several, of a flattened group, and with several layouts that
// none beats.
func bestDocs(t *testing.T) []impl.Doc {
	out := memoryDocs(t)
	for _, text := range []string{
		`[("abc"2<(_[("de"(_["f"]))])>)]`, `("abc"(_("abc"(_"abc"))))`, `("aaaa"([(..)]("b"9<[(_"cccc")]>)))`,
	} {
		out = append(out, parsed(t, text))
	}
	return append(append(out, toldDocs(anyDocs(20, 9))...), anyRows(10, 9)...)
}

var bestMemoryWidths = []int{0, 3, 6, 8, 30, 200}

// bestFrom lists all layouts that the functions of the chapter make of d, the best one in each width twice.
func bestFrom(d impl.Doc) [][]impl.Row {
	var out [][]impl.Row
	for _, width := range append(bestMemoryWidths, bestMemoryWidths...) {
		l, _ := impl.BestLayout(d, width)
		out = append(out, l)
	}
	list, _ := impl.ParetoLayouts(d)
	again, _ := impl.ParetoLayouts(d)
	return append(append(out, list...), again...)
}

func TestBestArgumentsStay(t *testing.T) {
	for _, plain := range append(bestDocs(t), impl.Doc{}, wide(81), groups(5, word("A")), product(leaf(impl.OpLine), 20, 16)) {
		d := roomy(plain)
		before := memory(d)
		for _, width := range append(bestMemoryWidths, -1, 201) {
			impl.BestLayout(d, width)
			impl.BestCost(d, width)
			impl.GreedyGap(d, width)
		}
		impl.ParetoLayouts(d)
		impl.FirstGap(d)
		if memory(d) != before {
			t.Fatalf("an argument %v is changed", plain)
		}
	}
}

func TestCostArgumentsStay(t *testing.T) {
	layouts := append(layoutSamples(), manyLines(200))
	for _, l := range noLayouts() {
		layouts = append(layouts, l)
	}
	for _, l := range layouts {
		l = roomyRows(l)
		before := rowsMemory(l)
		for _, width := range append(bestMemoryWidths, -1, 201) {
			impl.CostOf(l, width)
		}
		if rowsMemory(l) != before {
			t.Fatalf("an argument %s is changed", show(l))
		}
	}
}

func TestBestMemory(t *testing.T) {
	for _, d := range bestDocs(t) {
		checkOwnLayouts(t, d, bestFrom)
	}
}

func TestBestTextsMemory(t *testing.T) {
	for _, d := range bestDocs(t) {
		checkOwnTexts(t, slices.Concat(bestFrom(d)...), textsIn(d))
	}
}

// TestParetoListMemory overwrites a list of layouts, unused capacity too.
func TestParetoListMemory(t *testing.T) {
	for _, d := range bestDocs(t) {
		first, _ := impl.ParetoLayouts(d)
		second, _ := impl.ParetoLayouts(d)
		all, _ := impl.DistinctLayouts(d)
		wantAll := writtenAll(all)
		for i := range first[:cap(first)] {
			first[:cap(first)][i] = lines("SCRIBBLED")
		}
		if writtenAll(second) != writtenAll(unbeaten(offersOf(eachOnce(choicesOf(d))))) || writtenAll(all) != wantAll {
			t.Fatalf("%s: lists of layouts share memory", textOf(d))
		}
	}
}

func TestBestIsTheSameAgain(t *testing.T) {
	docs := bestDocs(t)
	for range 2 {
		for _, d := range docs {
			checkDocBest(t, d, 200, bestMemoryWidths...)
		}
	}
}
