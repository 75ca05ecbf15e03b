package tests

import (
	"testing"

	"loop.example/docalgebra/impl"
)

// greedyDocs are documents with lines of one text, of several, of a flattened group, and of none.
func greedyDocs(t *testing.T) []impl.Doc {
	out := memoryDocs(t)
	for _, text := range []string{
		`[("abc"2<(_[("de"(_["f"]))])>)]`, `("abc"(_("abc"(_"abc"))))`, `([("abc"(_"de"))](["abc"](![_])))`,
	} {
		out = append(out, parsed(t, text))
	}
	return append(out, anyDocs(20, 5)...)
}

var greedyMemoryWidths = []int{0, 3, 6, 8, 30, 200}

func TestGreedyArgumentsStay(t *testing.T) {
	for _, plain := range append(greedyDocs(t), impl.Doc{}, wide(81), groups(5, word("A"))) {
		d := roomy(plain)
		before := memory(d)
		for _, width := range append(greedyMemoryWidths, -1, 201) {
			impl.RenderDoc(d, width)
			impl.RenderText(d, width)
			impl.GroupFlags(d, width)
		}
		impl.FlatWidth(d)
		impl.LeadWidth(d)
		impl.WidthsOf(d)
		if memory(d) != before {
			t.Fatalf("an argument %v is changed", plain)
		}
	}
}

// TestRenderedMemory overwrites each layout, and looks for changes in all others.
func TestRenderedMemory(t *testing.T) {
	for _, plain := range greedyDocs(t) {
		d := roomy(plain)
		before := memory(d)
		var layouts [][]impl.Row
		var texts []string
		for _, width := range append(greedyMemoryWidths, greedyMemoryWidths...) {
			l, _ := impl.RenderDoc(d, width)
			s, _ := impl.RenderText(d, width)
			layouts, texts = append(layouts, l), append(texts, s)
		}
		others := append(textsIn(d), texts...)
		for i, l := range layouts {
			want, _ := greedy(plain, greedyMemoryWidths[i%len(greedyMemoryWidths)])
			if !sameRows(l, want) {
				t.Fatalf("%s: the layout %d is changed by another one", textOf(plain), i)
			}
			checkOwnTexts(t, l, others)
			others = append(others, rowTexts(l)...)
			scribbleRows(l)
		}
		for i, s := range texts {
			for _, other := range append(textsIn(d), texts[:i]...) {
				if overlap(s, other) {
					t.Fatalf("%s: the text %q shares memory", textOf(plain), s)
				}
			}
		}
		if memory(d) != before {
			t.Fatalf("%s: a result shares memory with an argument", textOf(plain))
		}
	}
}

// TestRenderedOutlivesArguments overwrites the document after it is rendered.
func TestRenderedOutlivesArguments(t *testing.T) {
	for _, plain := range greedyDocs(t) {
		for _, width := range greedyMemoryWidths {
			d := roomy(plain)
			l, _ := impl.RenderDoc(d, width)
			scribble(d)
			if want, _ := greedy(plain, width); !sameRows(l, want) {
				t.Fatalf("%s: the layout in %d shares memory with an argument", textOf(plain), width)
			}
		}
	}
}

// TestFlagsMemory overwrites flags, unused capacity too.
func TestFlagsMemory(t *testing.T) {
	for _, d := range greedyDocs(t) {
		for _, width := range greedyMemoryWidths {
			first, _ := impl.GroupFlags(d, width)
			second, _ := impl.GroupFlags(d, width)
			for i, fits := range first[:cap(first)] {
				first[:cap(first)][i] = !fits
			}
			third, _ := impl.GroupFlags(d, width)
			_, want := greedy(d, width)
			if flagSigns(second) != flagSigns(want) || flagSigns(third) != flagSigns(want) {
				t.Fatalf("%s: flags in %d share memory", textOf(d), width)
			}
		}
	}
}

// TestWidthsMemory overwrites widths, unused capacity too.
func TestWidthsMemory(t *testing.T) {
	for _, d := range greedyDocs(t) {
		want := greedyWidths(d, 200)
		first, _ := impl.WidthsOf(d)
		second, _ := impl.WidthsOf(d)
		for i := range first[:cap(first)] {
			first[:cap(first)][i] = -99
		}
		third, _ := impl.WidthsOf(d)
		for i, width := range want {
			if second[i] != width || third[i] != width {
				t.Fatalf("%s: lists of widths share memory", textOf(d))
			}
		}
	}
}

func TestRenderedIsTheSameAgain(t *testing.T) {
	docs := greedyDocs(t)
	for range 2 {
		for _, d := range docs {
			checkGreedy(t, d, greedyMemoryWidths...)
		}
	}
}
