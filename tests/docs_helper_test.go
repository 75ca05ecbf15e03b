package tests

import (
	"fmt"
	"testing"
	"unsafe"

	"loop.example/docalgebra/impl"
)

func leaf(op int) impl.Doc { return impl.Doc{Op: op} }

func word(s string) impl.Doc { return impl.Doc{Op: impl.OpText, Text: s} }

func nest(n int, d impl.Doc) impl.Doc {
	return impl.Doc{Op: impl.OpNest, N: n, Kids: []impl.Doc{d}}
}

func cat(a, b impl.Doc) impl.Doc {
	return impl.Doc{Op: impl.OpCat, Kids: []impl.Doc{a, b}}
}

func group(d impl.Doc) impl.Doc {
	return impl.Doc{Op: impl.OpGroup, Kids: []impl.Doc{d}}
}

// wide is a document of n nodes that is no deeper than it has to be.
func wide(n int) impl.Doc {
	switch n {
	case 1:
		return leaf(impl.OpLine)
	case 2:
		return group(leaf(impl.OpHard))
	}
	return cat(wide((n-1)/2), wide(n-1-(n-1)/2))
}

// balanced is a row of so many equal parts that is no deeper than it has to be.
func balanced(parts int, part impl.Doc) impl.Doc {
	if parts == 1 {
		return part
	}
	return cat(balanced(parts/2, part), balanced(parts-parts/2, part))
}

// deep puts bottom below so many layers, each made by around.
func deep(layers int, bottom impl.Doc, around func(impl.Doc) impl.Doc) impl.Doc {
	for range layers {
		bottom = around(bottom)
	}
	return bottom
}

// deepness is how many nodes of d are on the longest way down.
func deepness(d impl.Doc) int {
	most := 0
	for _, k := range d.Kids {
		most = max(most, deepness(k))
	}
	return most + 1
}

// layers are the ways to make a document deeper by one node.
func layers() map[string]func(impl.Doc) impl.Doc {
	return map[string]func(impl.Doc) impl.Doc{
		"nest":      func(d impl.Doc) impl.Doc { return nest(9, d) },
		"group":     group,
		"cat left":  func(d impl.Doc) impl.Doc { return cat(d, leaf(impl.OpEmpty)) },
		"cat right": func(d impl.Doc) impl.Doc { return cat(leaf(impl.OpEmpty), d) },
	}
}

// textOf writes the text of a document as the table of the specification says, whether it is valid or not.
func textOf(d impl.Doc) string {
	switch d.Op {
	case impl.OpEmpty:
		return "~"
	case impl.OpText:
		return fmt.Sprintf("\"%s\"", d.Text)
	case impl.OpLine:
		return "_"
	case impl.OpBreak:
		return "."
	case impl.OpHard:
		return "!"
	case impl.OpNest:
		return fmt.Sprintf("%d<%s>", d.N, textOf(d.Kids[0]))
	case impl.OpCat:
		return fmt.Sprintf("(%s%s)", textOf(d.Kids[0]), textOf(d.Kids[1]))
	}
	return fmt.Sprintf("[%s]", textOf(d.Kids[0]))
}

// docsByLength lists the documents whose texts have 0, 1, .. most bytes and hold only bytes of alphabet.
func docsByLength(most int, alphabet string) [][]impl.Doc {
	words := []string{""}
	out := make([][]impl.Doc, most+1)
	for n := 1; n <= most; n++ {
		if n == 1 {
			out[n] = []impl.Doc{leaf(impl.OpEmpty), leaf(impl.OpLine), leaf(impl.OpBreak), leaf(impl.OpHard)}
			continue
		}
		for i := 0; n > 2 && i < len(alphabet); i++ {
			for _, w := range words {
				if s := w + alphabet[i:i+1]; len(s) == n-2 && len(s) <= 12 && impl.TextValid(s) {
					out[n] = append(out[n], word(s))
				}
			}
		}
		words = nil
		for _, d := range out[n] {
			words = append(words, d.Text)
		}
		if n == 2 {
			words = []string{""}
			continue
		}
		for _, d := range out[n-2] {
			out[n] = append(out[n], group(d))
		}
		for _, d := range out[n-3] {
			out[n] = append(out[n], nest(2, d))
		}
		for k := 1; k < n-2; k++ {
			for _, a := range out[k] {
				for _, b := range out[n-2-k] {
					out[n] = append(out[n], cat(a, b))
				}
			}
		}
	}
	return out
}

// roomy copies d such that each of its Kids has unused capacity with something in it.
func roomy(d impl.Doc) impl.Doc {
	kids := make([]impl.Doc, 0, len(d.Kids)+2)
	for _, k := range d.Kids {
		kids = append(kids, roomy(k))
	}
	n := len(kids)
	kids = append(kids, word("unused"), impl.Doc{Op: 77, N: 7})
	d.Kids = kids[:n]
	return d
}

// memory writes all that d refers to, unused capacity too.
func memory(d impl.Doc) string {
	s := fmt.Sprintf("{%d %d %q %d", d.Op, d.N, d.Text, len(d.Kids))
	for _, k := range d.Kids[:cap(d.Kids)] {
		s += memory(k)
	}
	return s + "}"
}

// scribble overwrites all memory that d refers to, unused capacity too.
func scribble(d impl.Doc) {
	kids := d.Kids[:cap(d.Kids)]
	for i := range kids {
		scribble(kids[i])
		kids[i] = impl.Doc{Op: 99, N: 99, Text: "scribbled"}
	}
}

// overlap reports whether two strings have bytes in common memory.
func overlap(a, b string) bool {
	if a == "" || b == "" {
		return false
	}
	p, q := uintptr(unsafe.Pointer(unsafe.StringData(a))), uintptr(unsafe.Pointer(unsafe.StringData(b)))
	return p < q+uintptr(len(b)) && q < p+uintptr(len(a))
}

// textsIn lists the Texts of the nodes of d.
func textsIn(d impl.Doc) []string {
	out := []string{d.Text}
	for _, k := range d.Kids {
		out = append(out, textsIn(k)...)
	}
	return out
}

// isZeroDoc reports whether d is what a function returns where there is no document.
func isZeroDoc(d impl.Doc) bool {
	return d.Op == 0 && d.N == 0 && d.Text == "" && len(d.Kids) == 0
}

// parsed returns the document of a text, which has to have one.
func parsed(t *testing.T, text string) impl.Doc {
	t.Helper()
	d, ok := impl.ParseDoc(text)
	if !ok {
		t.Fatalf("ParseDoc(%q) returns false", text)
	}
	return d
}

// noDocs are documents that are not valid.
func noDocs() map[string]impl.Doc {
	return map[string]impl.Doc{
		"zero":           {},
		"unknown":        leaf(9),
		"no text":        word(""),
		"capital":        group(word("A")),
		"long text":      cat(word("abcdefghijklm"), leaf(impl.OpLine)),
		"space":          word("a b"),
		"great nest":     nest(10, leaf(impl.OpLine)),
		"negative nest":  cat(leaf(impl.OpLine), nest(-1, leaf(impl.OpLine))),
		"no Kids":        {Op: impl.OpCat},
		"one Kid":        {Op: impl.OpCat, Kids: []impl.Doc{word("a")}},
		"line with Text": {Op: impl.OpLine, Text: "a"},
		"line with Kid":  {Op: impl.OpLine, Kids: []impl.Doc{word("a")}},
		"group with N":   {Op: impl.OpGroup, N: 1, Kids: []impl.Doc{word("a")}},
		"81 nodes":       wide(81),
		"81 plain nodes": deep(40, leaf(impl.OpLine), func(d impl.Doc) impl.Doc { return cat(d, leaf(impl.OpBreak)) }),
		"41 deep":        deep(40, leaf(impl.OpLine), group),
		"very deep":      deep(1_000_000, leaf(impl.OpLine), group),
		"very many":      doubled(60, leaf(impl.OpLine)),
		"within itself":  loop(1, impl.OpLine),
	}
}
