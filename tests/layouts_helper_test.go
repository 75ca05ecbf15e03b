package tests

import (
	"fmt"
	"strings"
	"testing"

	"loop.example/docalgebra/impl"
)

// row is a line of a layout.
func row(indent int, text string) impl.Row { return impl.Row{Indent: indent, Text: text} }

// lines is a layout of texts without indentations.
func lines(texts ...string) []impl.Row {
	var l []impl.Row
	for _, s := range texts {
		l = append(l, row(0, s))
	}
	return l
}

// manyLines is a layout of n lines with no two equal neighbours.
func manyLines(n int) []impl.Row {
	var l []impl.Row
	for i := range n {
		l = append(l, row(i%7, fmt.Sprint(i)))
	}
	return l
}

// letters is a text of n bytes.
func letters(n int) string { return strings.Repeat("x", n) }

// lineText is the text of a line, as the specification says it.
func lineText(r impl.Row) string {
	if r.Text == "" {
		return ""
	}
	return fmt.Sprintf("%*s%s", r.Indent, "", r.Text)
}

// lineTexts lists the texts of the lines of a layout.
func lineTexts(l []impl.Row) []string {
	var out []string
	for _, r := range l {
		out = append(out, lineText(r))
	}
	return out
}

// sameRows compares layouts without the program.
func sameRows(a, b []impl.Row) bool {
	return written(a) == written(b)
}

// written writes all lines of a layout.
func written(l []impl.Row) string {
	var out strings.Builder
	for _, r := range l {
		fmt.Fprintf(&out, "{%d %q}", r.Indent, r.Text)
	}
	return out.String()
}

// show writes a layout for a message.
func show(l []impl.Row) string { return fmt.Sprintf("%.200s", written(l)) }

// checkRows checks a layout and an ok that a function has returned: want, or an empty slice and false if that is empty.
func checkRows(t *testing.T, what string, got []impl.Row, ok bool, want []impl.Row) {
	t.Helper()
	if ok != (len(want) > 0) || !sameRows(got, want) {
		t.Errorf("%s = %s, %v, want %s", what, show(got), ok, show(want))
	}
}

// laidOut lays out a document leaf by leaf: in the open layout, each newline begins a line with the nests around it.
func laidOut(d impl.Doc) []impl.Row {
	l := []impl.Row{{}}
	var add func(d impl.Doc, indent int)
	add = func(d impl.Doc, indent int) {
		switch d.Op {
		case impl.OpLine, impl.OpBreak, impl.OpHard:
			l = append(l, row(indent, ""))
		case impl.OpText:
			l[len(l)-1].Text += d.Text
		}
		for _, k := range d.Kids {
			add(k, indent+d.N)
		}
	}
	add(d, 0)
	return l
}

// flattened writes a document in one line from its text, which has other signs for spaces.
func flattened(d impl.Doc) (string, bool) {
	var out strings.Builder
	quoted := false
	for _, c := range textOf(d) {
		switch {
		case c == '"':
			quoted = !quoted
		case quoted:
			out.WriteRune(c)
		case c == '_':
			out.WriteByte(' ')
		case c == '!':
			return "", false
		}
	}
	return out.String(), true
}

// layoutSamples are layouts with which each function can do something.
func layoutSamples() [][]impl.Row {
	return [][]impl.Row{
		lines(""),
		lines("a"),
		lines(" "),
		lines("", ""),
		lines("a", ""),
		lines("", "b"),
		lines("ab c", "", "d"),
		{row(0, "a"), row(2, "b")},
		{row(0, ""), row(5, "")},
		{row(0, "{"), row(3, " x "), row(0, ""), row(7, ""), row(1, "}")},
		{row(0, "abc"), row(12, "0"), row(4, "f(x)=[y,z]:1")},
	}
}

// noLayouts are lists of lines that are no layouts.
func noLayouts() map[string][]impl.Row {
	return map[string][]impl.Row{
		"nil":                  nil,
		"no lines":             {},
		"first Indent":         {row(1, "a")},
		"first Indent of two":  {row(1, ""), row(1, "a")},
		"negative first":       {row(-1, "a")},
		"negative Indent":      {row(0, "a"), row(-1, "b")},
		"last Indent negative": {row(0, "a"), row(3, "b"), row(-1, "")},
		"great Indent":         {row(0, "a"), row(401, "b")},
		"great empty Indent":   {row(0, "a"), row(401, "")},
		"capital letter":       lines("A"),
		"newline":              lines("a\nb"),
		"tab":                  lines("a", "\t"),
		"quote":                lines("a", "b", `"`),
		"byte 0":               lines("a\x00"),
		"rune":                 lines("é"),
		"long Text":            lines(letters(2000)),
		"last Text long":       lines("a", letters(2000)),
		"too many lines":       manyLines(201),
	}
}

// roomyRows copies a layout such that it has unused capacity with something in it.
func roomyRows(l []impl.Row) []impl.Row {
	c := make([]impl.Row, 0, len(l)+3)
	for _, r := range l {
		c = append(c, row(r.Indent, strings.Clone(r.Text)))
	}
	return append(c, row(66, "unused"), row(77, "Unused"))[:len(l)]
}

// rowsMemory writes all that a layout refers to, unused capacity too.
func rowsMemory(l []impl.Row) string { return fmt.Sprint(len(l), written(l[:cap(l)])) }

// scribbleRows overwrites all memory that a layout refers to, unused capacity too.
func scribbleRows(l []impl.Row) {
	for i := range l[:cap(l)] {
		l[:cap(l)][i] = row(-99, "SCRIBBLED")
	}
}
