package tests

import (
	"slices"
	"testing"

	"loop.example/docalgebra/impl"
)

func TestLayoutArgumentsStay(t *testing.T) {
	all := layoutSamples()
	for _, l := range noLayouts() {
		all = append(all, l)
	}
	for _, plain := range all {
		a, b := roomyRows(plain), roomyRows(plain)
		before := rowsMemory(a)
		impl.LayoutValid(a)
		impl.LayoutSame(a, b)
		impl.LayoutText(a)
		impl.LayoutWidth(a)
		impl.Overflow(a, 1)
		impl.CatLayouts(a, b)
		impl.CatLayouts(a, a)
		impl.CatLayouts(a, lines("x", "y"))
		impl.CatLayouts(lines("x", "y"), b)
		impl.NestLayout(2, a)
		if rowsMemory(a) != before || rowsMemory(b) != before {
			t.Errorf("an argument %s is changed", show(plain))
		}
	}
}

func TestLayoutDocArgumentsStay(t *testing.T) {
	for _, d := range []impl.Doc{roomy(parsed(t, sample)), roomy(parsed(t, `[("a"2<(_"b")>)]`)), roomy(impl.Doc{}), roomy(wide(81))} {
		before := memory(d)
		impl.FlatText(d)
		impl.OpenLayout(d)
		if memory(d) != before {
			t.Errorf("an argument %v is changed", d)
		}
	}
}

// results are what the functions make of two layouts.
func results(a, b []impl.Row) [][]impl.Row {
	var out [][]impl.Row
	add := func(l []impl.Row, ok bool) {
		if ok {
			out = append(out, l)
		}
	}
	add(impl.CatLayouts(a, b))
	add(impl.CatLayouts(b, a))
	add(impl.CatLayouts(a, a))
	add(impl.CatLayouts(a, lines("")))
	add(impl.CatLayouts(lines(""), a))
	add(impl.NestLayout(0, a))
	add(impl.NestLayout(3, a))
	return out
}

func TestLayoutResultsMemory(t *testing.T) {
	for _, first := range layoutSamples() {
		for _, second := range layoutSamples() {
			a, b := roomyRows(first), roomyRows(second)
			list, same := results(a, b), results(first, second)
			before := rowsMemory(a) + rowsMemory(b)
			for i, l := range list {
				if !sameRows(l, same[i]) {
					t.Fatalf("%s, %s: result %d is changed by another one", show(first), show(second), i)
				}
				scribbleRows(l)
			}
			if rowsMemory(a)+rowsMemory(b) != before {
				t.Fatalf("%s, %s: a result shares memory with an argument", show(first), show(second))
			}
			list = results(a, b)
			scribbleRows(a)
			scribbleRows(b)
			for i, l := range list {
				if !sameRows(l, same[i]) {
					t.Fatalf("%s, %s: result %d shares memory with an argument", show(first), show(second), i)
				}
			}
		}
	}
}

func TestLayoutRowTextsMemory(t *testing.T) {
	for _, first := range layoutSamples() {
		for _, second := range layoutSamples() {
			a, b := roomyRows(first), roomyRows(second)
			list := results(a, b)
			for i, l := range list {
				others := append(slices.Concat(list[:i]...), slices.Concat(a, b, slices.Concat(list[i+1:]...))...)
				checkOwnTexts(t, l, rowTexts(others))
			}
		}
	}
}

// rowTexts lists the Texts of the lines of a layout.
func rowTexts(l []impl.Row) []string {
	var out []string
	for _, r := range l {
		out = append(out, r.Text)
	}
	return out
}

// checkOwnTexts checks that the Texts of a layout are in memory apart from each other and from others.
func checkOwnTexts(t *testing.T, l []impl.Row, others []string) {
	t.Helper()
	own := rowTexts(l)
	for i, s := range own {
		for _, other := range slices.Concat(own[:i], others) {
			if overlap(s, other) {
				t.Fatalf("%q shares memory with %q", s, other)
			}
		}
	}
}

func TestOpenLayoutMemory(t *testing.T) {
	for _, text := range []string{`"abc"`, `["abc"]`, `4<"abc">`, `("abc"~)`, `(~"abc")`, `("abc"_)`, `(_"abc")`, `("abc""d")`, sample} {
		d := roomy(parsed(t, text))
		before := memory(d)
		first, _ := impl.OpenLayout(d)
		second, _ := impl.OpenLayout(d)
		checkOwnTexts(t, first, append(rowTexts(second), textsIn(d)...))
		scribbleRows(first)
		if !sameRows(second, laidOut(d)) || memory(d) != before {
			t.Errorf("%s: results of OpenLayout share memory", text)
		}
	}
}

// TestOpenLayoutOfTheSame has one text at many places.
func TestOpenLayoutOfTheSame(t *testing.T) {
	line := cat(word("abc"), leaf(impl.OpLine))
	l, ok := impl.OpenLayout(cat(line, cat(line, line)))
	checkRows(t, "OpenLayout", l, ok, lines("abc", "abc", "abc", ""))
	checkOwnTexts(t, l, textsIn(line))
}

func TestLayoutStringsMemory(t *testing.T) {
	d := parsed(t, `"abc"`)
	s, _ := impl.FlatText(d)
	again, _ := impl.FlatText(d)
	if overlap(s, d.Text) || overlap(s, again) {
		t.Error("a result of FlatText shares memory")
	}
	l := roomyRows(lines("abc"))
	text := impl.LayoutText(l)
	if overlap(text, l[0].Text) || overlap(text, impl.LayoutText(l)) {
		t.Error("a result of LayoutText shares memory")
	}
}
