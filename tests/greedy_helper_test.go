package tests

import (
	"math/rand/v2"
	"strings"
	"testing"

	"loop.example/docalgebra/impl"
)

// mark is added to each byte of a Text, so that none of them is a sign of a document.
const mark = 0x80

// marked is the text of a document, without quotes and with marked Texts.
func marked(d impl.Doc) string {
	var out strings.Builder
	quoted := false
	for _, c := range []byte(textOf(d)) {
		switch {
		case c == '"':
			quoted = !quoted
		case quoted:
			out.WriteByte(c + mark)
		default:
			out.WriteByte(c)
		}
	}
	return out.String()
}

// markedBytes counts the bytes of Texts in a marked text.
func markedBytes(text string) int {
	n := 0
	for _, c := range []byte(text) {
		if c >= mark {
			n++
		}
	}
	return n
}

// markedFlat is what is left of a marked text in one line.
func markedFlat(text string) string {
	var out strings.Builder
	for _, c := range []byte(text) {
		if c == '_' {
			c = ' ' + mark
		}
		if c >= mark {
			out.WriteByte(c)
		}
	}
	return out.String()
}

// markedLead counts the bytes of Texts in front of the first newline in a marked text.
func markedLead(text string) int {
	if i := strings.IndexAny(text, "_.!"); i >= 0 {
		text = text[:i]
	}
	return markedBytes(text)
}

// markedRows lays out a marked text as if it had no groups; its last signs may be missing.
func markedRows(text string) []impl.Row {
	l := []impl.Row{{}}
	var nests []int
	for _, c := range []byte(text) {
		switch {
		case c >= mark:
			l[len(l)-1].Text += string([]byte{c - mark})
		case c >= '0' && c <= '9':
			nests = append(nests, int(c-'0'))
		case c == '>':
			nests = nests[:len(nests)-1]
		case c == '_' || c == '.' || c == '!':
			indent := 0
			for _, n := range nests {
				indent += n
			}
			l = append(l, row(indent, ""))
		}
	}
	return l
}

// firstGroup cuts a marked text at its first group, if it has one.
func firstGroup(text string) (front, inside, behind string, found bool) {
	from := strings.IndexByte(text, '[')
	if from < 0 {
		return text, "", "", false
	}
	open := 0
	for i := from; ; i++ {
		switch text[i] {
		case '[':
			open++
		case ']':
			open--
		}
		if open == 0 {
			return text[:from], text[from+1 : i], text[i+1:], true
		}
	}
}

// greedy renders a document as a text.
func greedy(d impl.Doc, width int) ([]impl.Row, []bool) { return greedyMarked(marked(d), width) }

// greedyMarked renders a marked text: it decides on the first group, and writes the text again without it, until there
// is none.
func greedyMarked(text string, width int) ([]impl.Row, []bool) {
	var flags []bool
	for {
		front, inside, behind, found := firstGroup(text)
		if !found {
			return markedRows(text), flags
		}
		l := markedRows(front)
		last, flat := l[len(l)-1], markedFlat(inside)
		fits := !strings.Contains(inside, "!") && last.Indent+len(last.Text)+len(flat)+markedLead(behind) <= width
		flags = append(flags, fits)
		if fits {
			inside = flat
		}
		text = front + inside + behind
	}
}

// greedyWidths lists the widths from 1 to most in which a document is rendered in another way than in the one before.
func greedyWidths(d impl.Doc, most int) []int {
	var out []int
	before, _ := greedy(d, 0)
	for width := 1; width <= most; width++ {
		l, _ := greedy(d, width)
		if !sameRows(l, before) {
			out = append(out, width)
		}
		before = l
	}
	return out
}

// flagSigns writes whether groups fit.
func flagSigns(flags []bool) string {
	var out strings.Builder
	for _, fits := range flags {
		out.WriteByte(map[bool]byte{true: '+', false: '-'}[fits])
	}
	return out.String()
}

// checkRender checks what the functions make of a valid document in a valid width.
func checkRender(t *testing.T, d impl.Doc, width int, rows []impl.Row, flags string) {
	t.Helper()
	if l, ok := impl.RenderDoc(d, width); !ok || !sameRows(l, rows) {
		t.Fatalf("RenderDoc(%s, %d) = %s, %v, want %s", textOf(d), width, show(l), ok, show(rows))
	}
	if s, ok := impl.RenderText(d, width); !ok || s != strings.Join(lineTexts(rows), "\n") {
		t.Fatalf("RenderText(%s, %d) = %q, %v, want %q", textOf(d), width, s, ok, lineTexts(rows))
	}
	if f, ok := impl.GroupFlags(d, width); !ok || flagSigns(f) != flags {
		t.Fatalf("GroupFlags(%s, %d) = %q, %v, want %q", textOf(d), width, flagSigns(f), ok, flags)
	}
}

// checkGreedy checks the functions that have a width against the tests' own way to render.
func checkGreedy(t *testing.T, d impl.Doc, widths ...int) {
	t.Helper()
	for _, width := range widths {
		rows, flags := greedy(d, width)
		checkRender(t, d, width, rows, flagSigns(flags))
	}
}

// checkSizes checks the functions that have no width, with a document that all widths beyond most render alike.
func checkSizes(t *testing.T, d impl.Doc, most int) {
	t.Helper()
	flat, can := flattened(d)
	if !can {
		flat = ""
	}
	if n, ok := impl.FlatWidth(d); n != len(flat) || ok != can {
		t.Fatalf("FlatWidth(%s) = %d, %v, want %d, %v", textOf(d), n, ok, len(flat), can)
	}
	if n, ok := impl.LeadWidth(d); n != markedLead(marked(d)) || !ok {
		t.Fatalf("LeadWidth(%s) = %d, %v, want %d", textOf(d), n, ok, markedLead(marked(d)))
	}
	checkWidths(t, d, greedyWidths(d, most))
}

func checkWidths(t *testing.T, d impl.Doc, want []int) {
	t.Helper()
	got, ok := impl.WidthsOf(d)
	same := ok && len(got) == len(want)
	for i := 0; same && i < len(want); i++ {
		same = got[i] == want[i]
	}
	if !same {
		t.Fatalf("WidthsOf(%s) = %v, %v, want %v", textOf(d), got, ok, want)
	}
}

// checkNotRendered checks that the functions that have a width return nothing.
func checkNotRendered(t *testing.T, name string, d impl.Doc, width int) {
	t.Helper()
	if l, ok := impl.RenderDoc(d, width); ok || len(l) > 0 {
		t.Errorf("%s: RenderDoc(.., %d) = %s, %v", name, width, show(l), ok)
	}
	if s, ok := impl.RenderText(d, width); ok || s != "" {
		t.Errorf("%s: RenderText(.., %d) = %q, %v", name, width, s, ok)
	}
	if f, ok := impl.GroupFlags(d, width); ok || len(f) > 0 {
		t.Errorf("%s: GroupFlags(.., %d) = %v, %v", name, width, f, ok)
	}
}

// upTo lists the widths from 0 to n.
func upTo(n int) []int {
	var out []int
	for width := range n + 1 {
		out = append(out, width)
	}
	return out
}

// anyDoc is a document of n nodes that the numbers of r decide on; one of hards leaves is an OpHard.
func anyDoc(r *rand.Rand, n int, hards int) impl.Doc {
	if n == 1 {
		switch k := r.IntN(8); {
		case r.IntN(hards) == 0:
			return leaf(impl.OpHard)
		case k == 0:
			return leaf(impl.OpEmpty)
		case k < 5:
			return word(letters(1 + r.IntN(12)))
		case k < 7:
			return leaf(impl.OpLine)
		}
		return leaf(impl.OpBreak)
	}
	k := r.IntN(10)
	if n == 2 {
		k = r.IntN(4)
	}
	switch {
	case k == 0:
		return nest(r.IntN(10), anyDoc(r, n-1, hards))
	case k < 4:
		return group(anyDoc(r, n-1, hards))
	}
	front := 1 + r.IntN(n-2)
	return cat(anyDoc(r, front, hards), anyDoc(r, n-1-front, hards))
}

// anyDocs are count documents of anyDoc, always the same ones, all of them valid.
func anyDocs(count int, seed uint64) []impl.Doc {
	r := rand.New(rand.NewPCG(seed, 4))
	var out []impl.Doc
	for len(out) < count {
		d := anyDoc(r, 1+r.IntN(80), []int{6, 20, 1000}[len(out)%3])
		if deepness(d) <= 40 {
			out = append(out, d)
		}
	}
	return out
}

// texts is a document of n bytes in one line, an OpEmpty if there are none.
func texts(n int) impl.Doc {
	switch {
	case n == 0:
		return leaf(impl.OpEmpty)
	case n <= 12:
		return word(letters(n))
	}
	return cat(word(letters(12)), texts(n-12))
}

// nests is a document with n more spaces behind each newline in it.
func nests(n int, d impl.Doc) impl.Doc {
	for n > 9 {
		d, n = nest(9, d), n-9
	}
	return nest(n, d)
}

// flatGroup is a group that is n bytes long in one line, at least 1, and two lines otherwise.
func flatGroup(n int) impl.Doc { return group(cat(texts(n-1), leaf(impl.OpLine))) }
