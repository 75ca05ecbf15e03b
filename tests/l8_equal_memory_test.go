package tests

import (
	"slices"
	"sync"
	"testing"

	"loop.example/docalgebra/impl"
)

// memoryLayouts are layouts that have documents, some with equal lines.
func memoryLayouts() [][]impl.Row {
	return [][]impl.Row{
		lines(""), lines("", ""), lines("a"), lines("a", "a"), lines("abc", "", "abc"), lines("abcdefghijkl"), lines(signs(30), signs(30)),
		{row(0, signs(13)), row(12, ""), row(30, signs(24)), row(12, "")}, newlines(20, 10, 19), lines(signs(480)),
	}
}

// unequal are pairs of documents of which each has a layout, or all of them, that the other one has not.
func unequal(t *testing.T) [][2]impl.Doc {
	var out [][2]impl.Doc
	for _, d := range memoryDocs(t) {
		out = append(out, [2]impl.Doc{d, cat(word("abc"), d)}, [2]impl.Doc{group(cat(leaf(impl.OpBreak), d)), cat(leaf(impl.OpBreak), d)})
	}
	return append(out, [2]impl.Doc{parsed(t, `[("abc"2<(_"abc")>)]`), parsed(t, `("abc"2<(_"abc")>)`)})
}

// callPair calls all functions of two documents.
func callPair(a, b impl.Doc) {
	impl.OnlyLayout(a, b)
	impl.SameLayouts(a, b)
	impl.FirstWidth(a, b)
	impl.SameRenders(a, b)
	impl.SameOpen(a, b)
}

func TestEqualArgumentsStay(t *testing.T) {
	docs, none := append(memoryDocs(t), anyDocs(10, 84)...), noDocs()
	for _, name := range []string{"zero", "81 nodes", "41 deep", "capital", "great nest", "one Kid"} {
		docs = append(docs, none[name])
	}
	for _, plainA := range docs {
		for _, plainB := range docs {
			a, b := roomy(plainA), roomy(plainB)
			beforeA, beforeB := memory(a), memory(b)
			callPair(a, b)
			callPair(a, a)
			impl.WithoutGroups(a)
			if memory(a) != beforeA || memory(b) != beforeB {
				t.Fatalf("an argument %v or %v is changed", plainA, plainB)
			}
		}
	}
	lists := slices.Concat(memoryLayouts(), layoutSamples())
	for _, l := range noLayouts() {
		lists = append(lists, l)
	}
	for _, plain := range lists {
		l := roomyRows(plain)
		before := rowsMemory(l)
		impl.LayoutDoc(l)
		if rowsMemory(l) != before {
			t.Fatalf("an argument %s is changed", show(plain))
		}
	}
}

// TestOnlyLayoutMemory overwrites results, and then each of the arguments.
func TestOnlyLayoutMemory(t *testing.T) {
	for _, pair := range unequal(t) {
		for i := range pair {
			a, b := pair[i], pair[1-i]
			first := func(d impl.Doc) [][]impl.Row {
				l, _ := impl.OnlyLayout(d, b)
				again, _ := impl.OnlyLayout(d, b)
				return [][]impl.Row{l, again}
			}
			checkOwnLayouts(t, a, first)
			checkOwnLayouts(t, b, func(d impl.Doc) [][]impl.Row {
				l, _ := impl.OnlyLayout(a, d)
				return [][]impl.Row{l}
			})
			checkOwnTexts(t, slices.Concat(first(a)...), append(textsIn(a), textsIn(b)...))
		}
	}
}

// TestOnlyLayoutOfItsParts has two documents with common memory.
func TestOnlyLayoutOfItsParts(t *testing.T) {
	d := roomy(group(cat(word("abc"), cat(leaf(impl.OpLine), word("abc")))))
	before := memory(d)
	l, _ := impl.OnlyLayout(d, d.Kids[0])
	checkOwnTexts(t, l, textsIn(d))
	scribbleRows(l)
	if memory(d) != before {
		t.Fatal("a result shares memory with an argument")
	}
}

// checkOwnDocs checks results that are documents with the text want: they are in memory apart from others and from each
// other, and so are their parts.
func checkOwnDocs(t *testing.T, want string, results []impl.Doc, others []string) {
	t.Helper()
	for _, got := range results {
		if textOf(got) != want {
			t.Fatalf("a result is %s, want %s: it is changed by another one", textOf(got), want)
		}
		checkApart(t, textsIn(got), others)
		others = append(others, textsIn(got)...)
		checkOwnKids(t, got)
	}
}

func TestWithoutGroupsMemory(t *testing.T) {
	for _, plain := range normalDocs(t) {
		d := roomy(plain)
		before := memory(d)
		first, _ := impl.WithoutGroups(d)
		second, _ := impl.WithoutGroups(d)
		checkOwnDocs(t, groupless(plain), []impl.Doc{first, second}, textsIn(d))
		if memory(d) != before {
			t.Fatalf("%s: a result shares memory with an argument", textOf(plain))
		}
		third, _ := impl.WithoutGroups(d)
		scribble(d)
		if textOf(third) != groupless(plain) {
			t.Fatalf("%s: a result shares memory with an argument", textOf(plain))
		}
	}
}

func TestLayoutDocMemory(t *testing.T) {
	for _, plain := range memoryLayouts() {
		l := roomyRows(plain)
		before := rowsMemory(l)
		first, _ := impl.LayoutDoc(l)
		second, _ := impl.LayoutDoc(l)
		checkOwnDocs(t, layoutText(plain), []impl.Doc{first, second}, rowTexts(l[:cap(l)]))
		if rowsMemory(l) != before {
			t.Fatalf("%s: a result shares memory with an argument", show(plain))
		}
		third, _ := impl.LayoutDoc(l)
		scribbleRows(l)
		if textOf(third) != layoutText(plain) {
			t.Fatalf("%s: a result shares memory with an argument", show(plain))
		}
	}
}

// equalSides are documents of which some are equal in one way or another.
func equalSides(t *testing.T) []side {
	var out []side
	for _, d := range append(memoryDocs(t), anyDocs(6, 85)...) {
		out = append(out, sideOf(d, 200))
	}
	return out
}

func TestEqualIsTheSameAgain(t *testing.T) {
	sides, none := equalSides(t), noDocs()
	for range 2 {
		for i, a := range sides {
			for _, b := range sides[i:] {
				checkPair(t, a, b)
			}
			checkGroupless(t, a.doc)
		}
		for name, d := range none {
			checkNoPair(t, name, d, sides[0].doc)
		}
		for _, l := range memoryLayouts() {
			checkLayoutDoc(t, l)
		}
	}
}

// TestEqualAtOnce has the same documents and layouts in several goroutines.
func TestEqualAtOnce(t *testing.T) {
	sides := equalSides(t)
	var all sync.WaitGroup
	for range 8 {
		all.Go(func() {
			for i, a := range sides {
				b := sides[(i+1)%len(sides)]
				l, _ := impl.OnlyLayout(a.doc, b.doc)
				width, ok := impl.FirstWidth(a.doc, b.doc)
				if !sameRows(l, onlyIn(a, b)) || ok && width != firstWidth(a, b) {
					t.Errorf("OnlyLayout(%s, %s) = %s, FirstWidth = %d", textOf(a.doc), textOf(b.doc), show(l), width)
				}
				if d, _ := impl.WithoutGroups(a.doc); textOf(d) != groupless(a.doc) {
					t.Errorf("WithoutGroups(%s) = %s", textOf(a.doc), textOf(d))
				}
			}
			for _, l := range memoryLayouts() {
				if d, _ := impl.LayoutDoc(l); textOf(d) != layoutText(l) {
					t.Errorf("LayoutDoc(%s) = %s", show(l), textOf(d))
				}
			}
		})
	}
	all.Wait()
}
