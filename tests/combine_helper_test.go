package tests

import (
	"fmt"
	"regexp"
	"slices"
	"strings"
	"testing"

	"loop.example/docalgebra/impl"
)

// textPattern is what a text of a document looks like.
var textPattern = regexp.MustCompile(`^[a-z0-9,:={}()\[\]]{1,12}$`)

// badTexts are no texts of documents.
func badTexts() []string {
	return []string{
		"", " ", "abcdefghijklm", "A", "a b", "a ", " a", "\"", "a\"", "\"a\"", "~", "_", ".", "!", "<", ">", "a-b", "a\n", "\n", "\x00", "a\xff", "é",
		strings.Repeat("a", 1<<16),
	}
}

// joinedText joins documents with another one, all of them as sealed texts.
func joinedText(list []string, other string) string {
	switch len(list) {
	case 0:
		return "~"
	case 1:
		return list[0]
	}
	return "(" + list[0] + "(" + other + joinedText(list[1:], other) + "))"
}

func stackText(list []string) string { return joinedText(list, "!") }

func sepText(list []string) string { return "[" + joinedText(list, "_") + "]" }

func fillText(list []string) string {
	if len(list) == 0 {
		return "~"
	}
	front, back := "", ""
	for i, text := range list {
		if i > 0 {
			text = "[(_" + text + ")]"
		}
		if i < len(list)-1 {
			text, back = "("+text, back+")"
		}
		front += text
	}
	return front + back
}

func punctuatedTexts(text string, list []string) []string {
	out := slices.Clone(list)
	for i := 0; i+1 < len(list); i++ {
		out[i] = "(" + list[i] + sealed(word(text)) + ")"
	}
	return out
}

func bracketText(left string, n int, d, right string) string {
	return fmt.Sprintf("[(%s(%d<(.%s)>(.%s)))]", sealed(word(left)), n, d, sealed(word(right)))
}

func hangText(text string, n int, d string) string {
	return fmt.Sprintf("[(%s%d<(_%s)>)]", sealed(word(text)), n, d)
}

func repeatText(text string, count int) string {
	return joinedText(slices.Repeat([]string{sealed(word(text))}, count), ".")
}

// rendered lays out d on its own, with this Indent in each line.
func rendered(d impl.Doc, indent, width int) []impl.Row {
	l, _ := greedy(d, width-indent)
	for i := range l {
		l[i].Indent += indent
	}
	return l
}

// stackRows lays out documents that have lines of their own.
func stackRows(list []impl.Doc, width int) []impl.Row {
	if len(list) == 0 {
		return lines("")
	}
	var l []impl.Row
	for _, d := range list {
		l = append(l, rendered(d, 0, width)...)
	}
	return l
}

// sepRows lays out documents that are all in one line or all in lines of their own.
func sepRows(list []impl.Doc, width int) []impl.Row {
	var parts []string
	for _, d := range list {
		s, flat := flattened(d)
		if !flat {
			return stackRows(list, width)
		}
		parts = append(parts, s)
	}
	if line := strings.Join(parts, " "); len(line) <= width {
		return lines(line)
	}
	return stackRows(list, width)
}

// fillRows adds each document to the line if it has room there, and begins a line with it otherwise.
func fillRows(list []impl.Doc, width int) []impl.Row {
	if len(list) == 0 {
		return lines("")
	}
	l := rendered(list[0], 0, width)
	for _, d := range list[1:] {
		last := &l[len(l)-1]
		if s, flat := flattened(d); flat && last.Indent+len(last.Text+" "+s) <= width {
			last.Text += " " + s
			continue
		}
		l = append(l, rendered(d, 0, width)...)
	}
	return l
}

func bracketRows(left string, n int, d impl.Doc, right string, width int) []impl.Row {
	if s, flat := flattened(d); flat && len(left+s+right) <= width {
		return lines(left + s + right)
	}
	return slices.Concat(lines(left), rendered(d, n, width), lines(right))
}

func hangRows(text string, n int, d impl.Doc, width int) []impl.Row {
	if s, flat := flattened(d); flat && len(text+" "+s) <= width {
		return lines(text + " " + s)
	}
	return slices.Concat(lines(text), rendered(d, n, width))
}

// combiner is a function that makes a document of a list of them, with what the tests make of sealed texts, and of the
// documents in a width, instead.
type combiner struct {
	name string
	call func([]impl.Doc) (impl.Doc, bool)
	want func([]string) string
	rows func([]impl.Doc, int) []impl.Row
}

func combiners() []combiner {
	return []combiner{
		{"StackDocs", impl.StackDocs, stackText, stackRows},
		{"SepDocs", impl.SepDocs, sepText, sepRows},
		{"FillDocs", impl.FillDocs, fillText, fillRows},
	}
}

func sealedAll(list []impl.Doc) []string {
	var out []string
	for _, d := range list {
		out = append(out, sealed(d))
	}
	return out
}

// textsOf writes documents for messages, whether they are valid or not.
func textsOf(list []impl.Doc) string {
	var out strings.Builder
	for _, d := range list {
		fmt.Fprintf(&out, " %.300s", impl.FormatDoc(d))
	}
	return fmt.Sprintf("%d documents:%.600s", len(list), out.String())
}

// checkMade checks a document that a function has returned, and its layouts in some widths.
func checkMade(t *testing.T, what string, got impl.Doc, ok bool, want string, rows func(width int) []impl.Row, widths []int) {
	t.Helper()
	if !isMade(got, ok, want) {
		t.Fatalf("%s = %v, %v, want %q", what, got, ok, want)
	}
	if !ok {
		return
	}
	for _, width := range widths {
		if l, ok := impl.RenderDoc(got, width); !ok || !sameRows(l, rows(width)) {
			t.Fatalf("%s = %s is rendered in %d as %s, %v, want %s", what, want, width, show(l), ok, show(rows(width)))
		}
	}
}

// wantedText is the text of a sealed one, or nothing if there are too many documents, or the result is not valid.
func wantedText(count int, text string) string {
	if count > 19 || !sealedValid(text) {
		return ""
	}
	return unsealed(text)
}

// checkCombined checks the functions of a list with valid documents.
func checkCombined(t *testing.T, list []impl.Doc, widths ...int) {
	t.Helper()
	for _, c := range combiners() {
		got, ok := c.call(list)
		rows := func(width int) []impl.Row { return c.rows(list, width) }
		checkMade(t, c.name+" of "+textsOf(list), got, ok, wantedText(len(list), c.want(sealedAll(list))), rows, widths)
	}
	checkPunctuated(t, "=", list)
}

// checkPunctuated checks PunctuateDocs with valid documents and a valid text.
func checkPunctuated(t *testing.T, text string, list []impl.Doc) {
	t.Helper()
	got, ok := impl.PunctuateDocs(text, list)
	valid := true
	var wants []string
	for _, want := range punctuatedTexts(text, sealedAll(list)) {
		wants = append(wants, wantedText(len(list), want))
		valid = valid && wants[len(wants)-1] != ""
	}
	if !valid {
		wants = nil
	}
	if ok != valid || len(got) != len(wants) {
		t.Fatalf("PunctuateDocs(%q) of %s has %d documents, %v, want %d", text, textsOf(list), len(got), ok, len(wants))
	}
	for i, d := range got {
		if !isMade(d, ok, wants[i]) {
			t.Fatalf("PunctuateDocs(%q) of %s has %v as %d, want %s", text, textsOf(list), d, i, wants[i])
		}
	}
}

// checkAround checks the functions of one valid document, with any texts and any number.
func checkAround(t *testing.T, left string, n int, d impl.Doc, right string, widths ...int) {
	t.Helper()
	bracket, hang := "", ""
	if textPattern.MatchString(left) && n >= 0 && n <= 9 {
		hang = wantedText(1, hangText(left, n, sealed(d)))
		if textPattern.MatchString(right) {
			bracket = wantedText(1, bracketText(left, n, sealed(d), right))
		}
	}
	what := fmt.Sprintf("(%.50q, %d, %s, %.50q)", left, n, textOf(d), right)
	got, ok := impl.BracketDoc(left, n, d, right)
	checkMade(t, "BracketDoc"+what, got, ok, bracket, func(width int) []impl.Row { return bracketRows(left, n, d, right, width) }, widths)
	got, ok = impl.HangDoc(left, n, d)
	checkMade(t, "HangDoc"+what, got, ok, hang, func(width int) []impl.Row { return hangRows(left, n, d, width) }, widths)
}

// checkRepeat checks RepeatText with any text and any number.
func checkRepeat(t *testing.T, text string, count int, widths ...int) {
	t.Helper()
	want := ""
	if textPattern.MatchString(text) && count >= 0 && count <= 20 {
		want = wantedText(0, repeatText(text, count))
	}
	got, ok := impl.RepeatText(text, count)
	rows := func(int) []impl.Row { return lines(slices.Repeat([]string{text}, max(1, count))...) }
	if count == 0 {
		rows = func(int) []impl.Row { return lines("") }
	}
	checkMade(t, fmt.Sprintf("RepeatText(%.50q, %d)", text, count), got, ok, want, rows, widths)
	if s, flat := impl.FlatText(got); ok && (!flat || s != strings.Repeat(text, count)) {
		t.Fatalf("RepeatText(%q, %d) is %q, %v in one line", text, count, s, flat)
	}
}

// checkNotCombined checks that the functions make nothing of a list that has too many documents, or one that is not valid.
func checkNotCombined(t *testing.T, name string, list []impl.Doc) {
	t.Helper()
	for _, c := range combiners() {
		if got, ok := c.call(list); ok || !isZeroDoc(got) {
			t.Errorf("%s: %s = %v, %v", name, c.name, got, ok)
		}
	}
	if got, ok := impl.PunctuateDocs(",", list); ok || len(got) > 0 {
		t.Errorf("%s: PunctuateDocs = %v, %v", name, got, ok)
	}
}
