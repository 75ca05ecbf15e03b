package tests

import (
	"math"
	"testing"

	"loop.example/docalgebra/impl"
)

const sample = `[("ab"(2<[("{"(.!))]>("ab"3<(_"c")>)))]`

func TestDocArgumentsStay(t *testing.T) {
	for _, d := range []impl.Doc{
		roomy(parsed(t, sample)), roomy(leaf(impl.OpEmpty)), roomy(impl.Doc{}), roomy(wide(81)),
		roomy(impl.Doc{Op: 7, N: 1, Text: "!", Kids: []impl.Doc{{}, {Op: 9}, {}}}),
	} {
		other := roomy(d)
		before := memory(d)
		impl.DocValid(d)
		impl.DocSame(d, other)
		impl.DocSame(d, d)
		impl.DocSize(d)
		impl.FormatDoc(d)
		impl.CatDocs(d, other)
		impl.CatDocs(d, d)
		impl.CanFlatten(d)
		impl.CountOps(d, impl.OpText)
		if memory(d) != before || memory(other) != before {
			t.Errorf("an argument %v is changed", d)
		}
	}
}

func TestCatDocsMemory(t *testing.T) {
	a, b := roomy(parsed(t, sample)), roomy(parsed(t, `("x"[_])`))
	first, _ := impl.CatDocs(a, b)
	second, _ := impl.CatDocs(a, b)
	text, before := impl.FormatDoc(second), memory(a)+memory(b)
	scribble(first)
	if impl.FormatDoc(second) != text || memory(a)+memory(b) != before {
		t.Error("a result shares memory with another one or with an argument")
	}
	scribble(a)
	scribble(b)
	if impl.FormatDoc(second) != text {
		t.Error("a result shares memory with an argument")
	}
}

func TestCatDocsOfTheSame(t *testing.T) {
	line := []impl.Doc{leaf(impl.OpLine)}
	shared := impl.Doc{Op: impl.OpCat, Kids: []impl.Doc{{Op: impl.OpGroup, Kids: line}, {Op: impl.OpGroup, Kids: line}}}
	c, ok := impl.CatDocs(shared, shared)
	if !ok || impl.FormatDoc(c) != "(([_][_])([_][_]))" {
		t.Fatalf("CatDocs = %v, %v", c, ok)
	}
	scribble(c.Kids[0].Kids[0])
	if impl.FormatDoc(c.Kids[0].Kids[1]) != "[_]" || impl.FormatDoc(c.Kids[1]) != "([_][_])" || impl.FormatDoc(shared) != "([_][_])" {
		t.Error("parts of a result share memory")
	}
}

func TestParseDocMemory(t *testing.T) {
	first, second := parsed(t, sample), parsed(t, sample)
	scribble(first)
	if impl.FormatDoc(second) != sample {
		t.Error("a result shares memory with another one")
	}
	third := parsed(t, "([_][_])")
	scribble(third.Kids[0])
	if impl.FormatDoc(third.Kids[1]) != "[_]" {
		t.Error("parts of a result share memory")
	}
}

func TestDocTextsMemory(t *testing.T) {
	d := parsed(t, sample)
	for _, s := range textsIn(d) {
		if overlap(s, sample) {
			t.Errorf("%q is within the argument of ParseDoc", s)
		}
	}
	c, _ := impl.CatDocs(d, d)
	for _, s := range textsIn(c) {
		for _, other := range textsIn(d) {
			if overlap(s, other) {
				t.Errorf("%q is within an argument of CatDocs", s)
			}
		}
	}
}

// TestVeryDeepDocs has more nodes on a way down than a function that calls itself for each of them gets through.
func TestVeryDeepDocs(t *testing.T) {
	const n = 3_000_000
	a, b := deep(n, leaf(impl.OpHard), group), deep(n, leaf(impl.OpHard), group)
	if impl.DocSize(a) != n+1 || impl.CountOps(a, impl.OpHard) != 1 {
		t.Error("DocSize or CountOps is wrong")
	}
	if !impl.DocSame(a, b) || impl.DocSame(a, b.Kids[0]) {
		t.Error("DocSame is wrong")
	}
	checkNoDoc(t, a)
}

// checkNoDoc checks the functions that ask for a document with one that is not valid.
func checkNoDoc(t *testing.T, d impl.Doc) {
	t.Helper()
	if impl.DocValid(d) || impl.FormatDoc(d) != "" || impl.CanFlatten(d) {
		t.Error("DocValid, FormatDoc or CanFlatten takes an invalid document")
	}
	for _, pair := range [][2]impl.Doc{{d, leaf(impl.OpLine)}, {leaf(impl.OpLine), d}, {d, d}} {
		if c, ok := impl.CatDocs(pair[0], pair[1]); ok || !isZeroDoc(c) {
			t.Error("CatDocs takes an invalid document")
		}
	}
}

// doubled has 2^(n+1)-1 nodes in little memory: each list of Kids is there twice.
func doubled(n int, bottom impl.Doc) impl.Doc {
	return deep(n, bottom, func(d impl.Doc) impl.Doc { return cat(d, d) })
}

func TestManyNodesInLittleMemory(t *testing.T) {
	a, b := doubled(35, leaf(impl.OpHard)), doubled(35, leaf(impl.OpHard))
	if impl.DocSize(a) != 1<<36-1 || impl.CountOps(a, impl.OpHard) != 1<<35 || impl.CountOps(a, impl.OpCat) != 1<<35-1 {
		t.Errorf("DocSize = %d", impl.DocSize(a))
	}
	if !impl.DocSame(a, b) || impl.DocSame(a, doubled(35, leaf(impl.OpLine))) || impl.DocSame(a, doubled(34, leaf(impl.OpHard))) {
		t.Error("DocSame is wrong")
	}
	checkNoDoc(t, a)
	if more := doubled(500, leaf(impl.OpHard)); impl.DocSize(more) != math.MaxInt || impl.CountOps(more, impl.OpGroup) != 0 {
		t.Errorf("DocSize = %d of more nodes than an int can count", impl.DocSize(more))
	}
}

func TestOverlappingKids(t *testing.T) {
	all := []impl.Doc{leaf(impl.OpLine), leaf(impl.OpHard), leaf(impl.OpHard)}
	part := func(n int) impl.Doc { return impl.Doc{Op: impl.OpCat, Kids: all[:n]} }
	a, b := cat(part(1), part(2)), cat(part(1), part(3))
	if impl.DocSize(a) != 6 || impl.DocSize(b) != 7 || impl.CountOps(a, impl.OpHard) != 1 || impl.CountOps(b, impl.OpHard) != 2 {
		t.Errorf("DocSize = %d and %d", impl.DocSize(a), impl.DocSize(b))
	}
	if impl.DocSame(a, b) || !impl.DocSame(b, cat(part(1), part(3))) {
		t.Error("DocSame is wrong")
	}
}

// loop is within itself, behind so many groups.
func loop(groups int, op int) impl.Doc {
	kids := make([]impl.Doc, 2)
	kids[0] = leaf(op)
	kids[1] = deep(groups, impl.Doc{Op: impl.OpCat, Kids: kids}, group)
	return impl.Doc{Op: impl.OpCat, Kids: kids}
}

func TestDocsWithinThemselves(t *testing.T) {
	for groups := range 3 {
		d := loop(groups, impl.OpHard)
		checkNoDoc(t, d)
		if impl.DocSize(d) != math.MaxInt || impl.CountOps(d, impl.OpHard) != math.MaxInt || impl.CountOps(d, impl.OpBreak) != 0 {
			t.Errorf("DocSize = %d of a document within itself", impl.DocSize(d))
		}
		if !impl.DocSame(d, d) || !impl.DocSame(d, loop(groups, impl.OpHard)) || impl.DocSame(d, loop(groups, impl.OpLine)) || impl.DocSame(d, loop(3, impl.OpHard)) {
			t.Error("DocSame of documents within themselves is wrong")
		}
	}
	d := loop(0, impl.OpHard)
	if !impl.DocSame(d, cat(leaf(impl.OpHard), cat(leaf(impl.OpHard), d))) || impl.DocSame(d, cat(leaf(impl.OpHard), leaf(impl.OpHard))) {
		t.Error("DocSame of a document and its parts is wrong")
	}
	if above := cat(word("a"), cat(word("b"), d)); impl.CountOps(above, impl.OpText) != 2 || impl.CountOps(above, impl.OpLine) != 0 {
		t.Error("CountOps of what is outside a loop is wrong")
	}
}
