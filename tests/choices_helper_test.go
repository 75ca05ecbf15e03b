package tests

import (
	"fmt"
	"strings"
	"testing"

	"loop.example/docalgebra/impl"
)

// resolved lists the ways to decide on the groups of d, in the order of choices, each as what is left without groups:
// a flattened one is a text, whatever its bytes are.
func resolved(d impl.Doc) []impl.Doc {
	switch d.Op {
	case impl.OpNest:
		var out []impl.Doc
		for _, k := range resolved(d.Kids[0]) {
			out = append(out, nest(d.N, k))
		}
		return out
	case impl.OpCat:
		var out []impl.Doc
		behind := resolved(d.Kids[1])
		for _, a := range resolved(d.Kids[0]) {
			for _, b := range behind {
				out = append(out, cat(a, b))
			}
		}
		return out
	case impl.OpGroup:
		open := resolved(d.Kids[0])
		if s, ok := flattened(d); ok {
			return append([]impl.Doc{word(s)}, open...)
		}
		return open
	}
	return []impl.Doc{d}
}

// choicesOf lists the layouts of all choices of d.
func choicesOf(d impl.Doc) [][]impl.Row {
	var out [][]impl.Row
	for _, r := range resolved(d) {
		out = append(out, laidOut(r))
	}
	return out
}

// eachOnce lists the layouts of list without those that are there before.
func eachOnce(list [][]impl.Row) [][]impl.Row {
	var out [][]impl.Row
	seen := map[string]bool{}
	for _, l := range list {
		if !seen[written(l)] {
			seen[written(l)] = true
			out = append(out, l)
		}
	}
	return out
}

// narrowest is the first layout of list with the shortest longest line.
func narrowest(list [][]impl.Row) []impl.Row {
	for width := 0; ; width++ {
		for _, l := range list {
			fits := true
			for _, s := range lineTexts(l) {
				fits = fits && len(s) <= width
			}
			if fits {
				return l
			}
		}
	}
}

// shortest is the first layout of list with the fewest lines.
func shortest(list [][]impl.Row) []impl.Row {
	for n := 1; ; n++ {
		for _, l := range list {
			if len(l) == n {
				return l
			}
		}
	}
}

// writtenAll writes all lines of several layouts.
func writtenAll(list [][]impl.Row) string {
	var out strings.Builder
	for _, l := range list {
		fmt.Fprintf(&out, "%s\n", written(l))
	}
	return out.String()
}

// checkList checks layouts and an ok that a function has returned: want, or an empty slice and false if that is empty.
func checkList(t *testing.T, what string, got [][]impl.Row, ok bool, want [][]impl.Row) {
	t.Helper()
	if ok != (len(want) > 0) || writtenAll(got) != writtenAll(want) {
		t.Fatalf("%s = %d layouts, %v, want %d:\n%.600s---\n%.600s", what, len(got), ok, len(want), writtenAll(got), writtenAll(want))
	}
}

// checkChoices checks all functions of the chapter with a valid document that has want as the layouts of its choices.
func checkChoices(t *testing.T, d impl.Doc, want [][]impl.Row) {
	t.Helper()
	name := textOf(d)
	if n, ok := impl.CountChoices(d); !ok || n != len(want) {
		t.Fatalf("CountChoices(%s) = %d, %v, want %d", name, n, ok, len(want))
	}
	for n := range want {
		checkChoice(t, d, n, want[n])
	}
	checkChoice(t, d, -1, nil)
	checkChoice(t, d, len(want), nil)
	if len(want) > 300 {
		checkNotTold(t, name, d, want[0])
		return
	}
	list, ok := impl.LayoutsOf(d)
	checkList(t, fmt.Sprintf("LayoutsOf(%s)", name), list, ok, want)
	list, ok = impl.DistinctLayouts(d)
	checkList(t, fmt.Sprintf("DistinctLayouts(%s)", name), list, ok, eachOnce(want))
	l, ok := impl.Narrowest(d)
	checkRows(t, fmt.Sprintf("Narrowest(%s)", name), l, ok, narrowest(want))
	l, ok = impl.Shortest(d)
	checkRows(t, fmt.Sprintf("Shortest(%s)", name), l, ok, shortest(want))
	for _, l := range eachOnce(want) {
		checkHas(t, d, l)
	}
}

func checkChoice(t *testing.T, d impl.Doc, n int, want []impl.Row) {
	t.Helper()
	l, ok := impl.ChoiceOf(d, n)
	checkRows(t, fmt.Sprintf("ChoiceOf(%.400s, %d)", textOf(d), n), l, ok, want)
}

// checkHas checks that l, and nothing that is almost l, is a layout of d.
func checkHas(t *testing.T, d impl.Doc, l []impl.Row) {
	t.Helper()
	if !impl.HasLayout(d, roomyRows(l)) {
		t.Fatalf("HasLayout(%s, %s) = false", textOf(d), show(l))
	}
	last := len(l) - 1
	longer, deeper := roomyRows(l), roomyRows(l)
	longer[last].Text += " no"
	deeper[last].Indent += 300
	for _, other := range [][]impl.Row{longer, deeper} {
		if impl.HasLayout(d, other) {
			t.Fatalf("HasLayout(%s, %s) = true", textOf(d), show(other))
		}
	}
}

// checkNotTold checks the functions that tell layouts with a document whose layouts are not told, l being one of them.
func checkNotTold(t *testing.T, name string, d impl.Doc, l []impl.Row) {
	t.Helper()
	list, ok := impl.LayoutsOf(d)
	checkList(t, name+": LayoutsOf", list, ok, nil)
	list, ok = impl.DistinctLayouts(d)
	checkList(t, name+": DistinctLayouts", list, ok, nil)
	least, ok := impl.Narrowest(d)
	checkRows(t, name+": Narrowest", least, ok, nil)
	least, ok = impl.Shortest(d)
	checkRows(t, name+": Shortest", least, ok, nil)
	if impl.HasLayout(d, l) {
		t.Errorf("%s: HasLayout = true", name)
	}
}

// checkOwnLayouts overwrites each layout that from makes of a document, and looks for changes in all others and in the
// document; then it overwrites the document.
func checkOwnLayouts(t *testing.T, plain impl.Doc, from func(impl.Doc) [][]impl.Row) {
	t.Helper()
	d := roomy(plain)
	before, want := memory(d), from(plain)
	list := from(d)
	for i, l := range list {
		if !sameRows(l, want[i]) {
			t.Fatalf("%s: the layout %d is changed by another one", textOf(plain), i)
		}
		scribbleRows(l)
	}
	if memory(d) != before {
		t.Fatalf("%s: a result shares memory with an argument", textOf(plain))
	}
	list = from(d)
	scribble(d)
	for i, l := range list {
		if !sameRows(l, want[i]) {
			t.Fatalf("%s: the layout %d shares memory with an argument", textOf(plain), i)
		}
	}
}

// groups is bottom in n groups: it has n choices more than bottom, if that has no OpHard.
func groups(n int, bottom impl.Doc) impl.Doc { return deep(n, bottom, group) }

// product is a document whose number of choices is the product of factors, each at least 1.
func product(bottom impl.Doc, factors ...int) impl.Doc {
	d := groups(factors[0]-1, bottom)
	for _, n := range factors[1:] {
		d = cat(groups(n-1, bottom), d)
	}
	return d
}

// greatChoiceDocs are documents with as many nodes, or as many on the way down, as there can be, and few choices.
func greatChoiceDocs() map[string]impl.Doc {
	nests := layers()["nest"]
	texts := func(d impl.Doc) impl.Doc { return cat(word("abcdefghijkl"), d) }
	lined := func(d impl.Doc) impl.Doc { return cat(leaf(impl.OpLine), d) }
	return map[string]impl.Doc{
		"deep group":  deep(38, group(leaf(impl.OpLine)), nests),
		"group above": group(deep(38, leaf(impl.OpBreak), nests)),
		"groups":      groups(39, leaf(impl.OpLine)),
		"hard groups": groups(39, leaf(impl.OpHard)),
		"long line":   group(deep(38, word("abcdefghijkl"), texts)),
		"many lines":  group(deep(38, leaf(impl.OpBreak), lined)),
		"wide":        wide(80),
		"in between":  deep(13, leaf(impl.OpLine), func(d impl.Doc) impl.Doc { return group(nest(9, lined(d))) }),
	}
}
