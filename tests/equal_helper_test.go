package tests

import (
	"fmt"
	"math/rand/v2"
	"strings"
	"testing"

	"loop.example/docalgebra/impl"
)

// side is what the tests know of a valid document that is compared with others.
type side struct {
	doc     impl.Doc
	open    string
	layouts [][]impl.Row // of all choices; nil if there are more than 300
	written map[string]bool
	renders []string // in the widths from 0 on; each greater width has the last one
}

// sideOf looks at a document that all widths from most on render alike.
func sideOf(d impl.Doc, most int) side {
	s := side{doc: d, open: written(laidOut(d)), written: map[string]bool{}}
	if choiceCount(d) <= 300 {
		s.layouts = choicesOf(d)
	}
	for _, l := range s.layouts {
		s.written[written(l)] = true
	}
	for _, width := range upTo(most) {
		l, _ := greedy(d, width)
		s.renders = append(s.renders, written(l))
	}
	return s
}

// choiceCount is the number of choices of a document, which may be more than there are integers.
func choiceCount(d impl.Doc) float64 {
	n := 1.0
	for _, k := range d.Kids {
		n *= choiceCount(k)
	}
	if _, flat := flattened(d); d.Op == impl.OpGroup && flat {
		n++
	}
	return n
}

func (s side) render(width int) string { return s.renders[min(width, len(s.renders)-1)] }

// onlyIn is the first layout of a that b has not; nil if there is none, or one of both has too many.
func onlyIn(a, b side) []impl.Row {
	for _, l := range a.layouts {
		if b.layouts != nil && !b.written[written(l)] {
			return l
		}
	}
	return nil
}

// firstWidth is the least width in which a and b are rendered in another way, or -1.
func firstWidth(a, b side) int {
	for _, width := range upTo(200) {
		if a.render(width) != b.render(width) {
			return width
		}
	}
	return -1
}

// checkPair checks the functions with two documents, in both orders.
func checkPair(t *testing.T, a, b side) {
	t.Helper()
	checkOneWay(t, a, b)
	checkOneWay(t, b, a)
}

func checkOneWay(t *testing.T, a, b side) {
	t.Helper()
	names := fmt.Sprintf("(%s, %s)", textOf(a.doc), textOf(b.doc))
	only, width := onlyIn(a, b), firstWidth(a, b)
	if l, ok := impl.OnlyLayout(a.doc, b.doc); ok != (only != nil) || !sameRows(l, only) {
		t.Fatalf("OnlyLayout%s = %s, %v, want %s", names, show(l), ok, show(only))
	}
	told := a.layouts != nil && b.layouts != nil
	if got, want := impl.SameLayouts(a.doc, b.doc), told && only == nil && onlyIn(b, a) == nil; got != want {
		t.Fatalf("SameLayouts%s = %v", names, got)
	}
	if got, ok := impl.FirstWidth(a.doc, b.doc); ok != (width >= 0) || got != max(width, 0) {
		t.Fatalf("FirstWidth%s = %d, %v, want %d", names, got, ok, width)
	}
	if got := impl.SameRenders(a.doc, b.doc); got != (width < 0) {
		t.Fatalf("SameRenders%s = %v", names, got)
	}
	if got := impl.SameOpen(a.doc, b.doc); got != (a.open == b.open) {
		t.Fatalf("SameOpen%s = %v", names, got)
	}
}

// checkNoPair checks that the functions find nothing for two documents of which one is not valid.
func checkNoPair(t *testing.T, name string, a, b impl.Doc) {
	t.Helper()
	l, ok := impl.OnlyLayout(a, b)
	checkRows(t, name+": OnlyLayout", l, ok, nil)
	if width, ok := impl.FirstWidth(a, b); ok || width != 0 {
		t.Errorf("%s: FirstWidth = %d, %v", name, width, ok)
	}
	if impl.SameLayouts(a, b) || impl.SameRenders(a, b) || impl.SameOpen(a, b) {
		t.Errorf("%s: SameLayouts = %v, SameRenders = %v, SameOpen = %v", name, impl.SameLayouts(a, b), impl.SameRenders(a, b), impl.SameOpen(a, b))
	}
}

var brackets = strings.NewReplacer("[", "", "]", "")

// groupless writes a document without its groups.
func groupless(d impl.Doc) string { return unsealed(brackets.Replace(sealed(d))) }

// checkGroupless checks WithoutGroups with a valid document.
func checkGroupless(t *testing.T, d impl.Doc) {
	t.Helper()
	got, ok := impl.WithoutGroups(d)
	checkChanged(t, "WithoutGroups", d, got, ok, groupless(d))
	if n, ok := impl.CountChoices(got); !ok || n != 1 || !impl.SameOpen(d, got) {
		t.Fatalf("WithoutGroups(%s) = %s has %d choices, or another open layout", textOf(d), textOf(got), n)
	}
}

// layoutText writes the document of a layout, or nothing if there is none.
func layoutText(l []impl.Row) string {
	if !impl.LayoutValid(l) || strings.Contains(strings.Join(rowTexts(l), ""), " ") {
		return ""
	}
	var parts []string
	for i, r := range l {
		if i > 0 {
			parts = append(parts, nested([]int{r.Indent}, "!"))
		}
		for k, c := range []byte(r.Text) {
			if k%12 == 0 {
				parts = append(parts, `""`)
			}
			last := &parts[len(parts)-1]
			*last = (*last)[:len(*last)-1] + string([]byte{c + mark, '"'})
		}
	}
	if len(parts) == 0 {
		return "~"
	}
	text := inRows(strings.Join(parts, ""))
	if len(parts) > 100 || !sealedValid(text) {
		return ""
	}
	return unsealed(text)
}

// checkLayoutDoc checks LayoutDoc with a layout, or with lines that are none, and that the result has this layout only.
func checkLayoutDoc(t *testing.T, l []impl.Row) {
	t.Helper()
	d, ok := impl.LayoutDoc(l)
	want := layoutText(l)
	if want == "" {
		if ok || !isZeroDoc(d) {
			t.Fatalf("LayoutDoc(%s) = %v, %v", show(l), d, ok)
		}
		return
	}
	if !ok || textOf(d) != want || impl.FormatDoc(d) != want {
		t.Fatalf("LayoutDoc(%s) = %s, %v, want %s", show(l), textOf(d), ok, want)
	}
	list, ok := impl.LayoutsOf(d)
	checkList(t, fmt.Sprintf("LayoutsOf(%s)", want), list, ok, [][]impl.Row{l})
	for _, width := range []int{0, 20, 200} {
		if got, ok := impl.RenderDoc(d, width); !ok || !sameRows(got, l) {
			t.Fatalf("RenderDoc(%s, %d) = %s, %v, want %s", want, width, show(got), ok, show(l))
		}
	}
}

// edited changes one node of a document, as the numbers of r decide; the result need not be valid.
func edited(r *rand.Rand, d impl.Doc) impl.Doc {
	if len(d.Kids) > 0 && r.IntN(3) > 0 {
		kids := append([]impl.Doc{}, d.Kids...)
		k := r.IntN(len(kids))
		kids[k] = edited(r, kids[k])
		d.Kids = kids
		return d
	}
	switch {
	case r.IntN(4) == 0:
		return group(d)
	case r.IntN(8) == 0:
		return nest(r.IntN(3), d)
	case d.Op == impl.OpGroup:
		return d.Kids[0]
	case d.Op == impl.OpNest:
		return nest(d.N+1, d.Kids[0])
	case d.Op == impl.OpCat:
		return cat(d.Kids[1], d.Kids[0])
	case d.Op == impl.OpText:
		return word(d.Text + "y")
	}
	return leaf([]int{impl.OpEmpty, impl.OpLine, impl.OpBreak, impl.OpHard}[r.IntN(4)])
}
