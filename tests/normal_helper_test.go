package tests

import (
	"regexp"
	"slices"
	"strings"
	"testing"

	"loop.example/docalgebra/impl"
)

// sealed is the text of a document with marked Texts, so that each sign that is not marked is one of the document.
func sealed(d impl.Doc) string {
	var out strings.Builder
	quoted := false
	for _, c := range []byte(textOf(d)) {
		if c == '"' {
			quoted = !quoted
		} else if quoted {
			c += mark
		}
		out.WriteByte(c)
	}
	return out.String()
}

// unsealed is the text with the Texts as they are.
func unsealed(text string) string {
	out := []byte(text)
	for i, c := range out {
		out[i] = c &^ mark
	}
	return string(out)
}

var sealedLeaf = regexp.MustCompile(`^(?:[~_.!]|"[^"]*")`)

// sealedEnd is how many bytes the first document of a sealed text has.
func sealedEnd(text string) int {
	if found := sealedLeaf.FindString(text); found != "" {
		return len(found)
	}
	open := 0
	for i := range len(text) {
		switch text[i] {
		case '(', '[', '<':
			open++
		case ')', ']', '>':
			if open--; open == 0 {
				return i + 1
			}
		}
	}
	panic("no document at the front of " + unsealed(text))
}

// sealedKids cuts the sealed text of a node with Kids into what is in front of these, their texts, and what is behind.
func sealedKids(text string) (front string, kids []string, back string) {
	from, to := strings.IndexAny(text, "([<")+1, len(text)-1
	for inside := text[from:to]; inside != ""; {
		end := sealedEnd(inside)
		kids, inside = append(kids, inside[:end]), inside[end:]
	}
	return text[:from], kids, text[to:]
}

// cutFirst replaces the first document in a sealed text that has a Kid to be put in its place, until none has one.
func cutFirst(text string, instead func(node string, kids []string) int) string {
	for i := 0; i < len(text); i++ {
		if !strings.ContainsAny(text[i:i+1], "([0123456789") {
			continue
		}
		end := i + sealedEnd(text[i:])
		_, kids, _ := sealedKids(text[i:end])
		if k := instead(text[i:end], kids); k >= 0 {
			text, i = text[:i]+kids[k]+text[end:], -1
		}
	}
	return text
}

func withoutEmpties(text string) string {
	return cutFirst(text, func(_ string, kids []string) int {
		i := slices.Index(kids, "~")
		if i < 0 || len(kids) == 1 {
			return i
		}
		return 1 - i
	})
}

func withoutNeedlessGroups(text string) string {
	return cutFirst(text, func(node string, kids []string) int {
		if node[0] == '[' && (!strings.ContainsAny(node, "_.!") || strings.Contains(node, "!") || kids[0][0] == '[') {
			return 0
		}
		return -1
	})
}

// pushedNests writes a sealed text without its nests, and with those of each newline.
func pushedNests(text string) string {
	var out strings.Builder
	var around []int
	for _, c := range []byte(text) {
		switch {
		case c >= '0' && c <= '9':
			around = append(around, int(c-'0'))
		case c == '>':
			around = around[:len(around)-1]
		case c == '_' || c == '.' || c == '!':
			out.WriteString(nested(around, string([]byte{c})))
		case c != '<':
			out.WriteByte(c)
		}
	}
	return out.String()
}

// nested writes a newline in one nest that has what is beyond nests of 9, and in these.
func nested(around []int, newline string) string {
	sum := 0
	for _, n := range around {
		sum += n
	}
	front := strings.Repeat("9<", sum/9)
	if sum%9 > 0 {
		front = string([]byte{'0' + byte(sum%9)}) + "<" + front
	}
	return front + newline + strings.Repeat(">", strings.Count(front, "<"))
}

var parens = strings.NewReplacer("(", "", ")", "")

// turnedRight writes the rows of a sealed text again.
func turnedRight(text string) string { return inRows(parens.Replace(text)) }

// inRows joins the documents of a sealed text without OpCat.
func inRows(text string) string {
	_, parts, _ := sealedKids("(" + text + ")")
	for i, p := range parts {
		if !sealedLeaf.MatchString(p) {
			front, kids, back := sealedKids(p)
			parts[i] = front + inRows(strings.Join(kids, "")) + back
		}
	}
	last := len(parts) - 1
	if last == 0 {
		return parts[0]
	}
	return "(" + strings.Join(parts[:last], "(") + parts[last] + strings.Repeat(")", last)
}

// fusedTexts writes the rows of a sealed text again, with the quotes between two texts removed, from the first one on.
func fusedTexts(text string) string {
	text = parens.Replace(text)
	for from := 0; ; {
		i := strings.Index(text[from:], `""`)
		if i < 0 {
			return inRows(text)
		}
		i += from
		first, second := i-1-strings.LastIndex(text[:i], `"`), strings.Index(text[i+2:], `"`)
		if first+second > 12 {
			from = i + 2
			continue
		}
		text = text[:i] + text[i+2:]
	}
}

func normalText(text string) string {
	return fusedTexts(withoutEmpties(withoutNeedlessGroups(pushedNests(withoutEmpties(text)))))
}

// sealedValid reports whether a sealed text is not of too many nodes, and not too deep.
func sealedValid(text string) bool {
	nodes, open, depth := strings.Count(text, `"`)/2, 0, 1
	for _, c := range []byte(text) {
		switch c {
		case '~', '_', '.', '!':
			nodes++
		case '(', '[', '<':
			nodes, open = nodes+1, open+1
			depth = max(depth, open+1)
		case ')', ']', '>':
			open--
		}
	}
	return nodes <= 80 && depth <= 40
}

// pass is a function of the chapter, with what the tests make of a sealed text instead.
type pass struct {
	name string
	call func(impl.Doc) (impl.Doc, bool)
	want func(string) string
}

func passes() []pass {
	return []pass{
		{"DropEmpty", impl.DropEmpty, withoutEmpties},
		{"PushNest", impl.PushNest, pushedNests},
		{"DropGroups", impl.DropGroups, withoutNeedlessGroups},
		{"TurnRight", impl.TurnRight, turnedRight},
		{"FuseText", impl.FuseText, fusedTexts},
		{"NormalDoc", impl.NormalDoc, normalText},
	}
}

// isMade reports whether a function has returned the document of a text and true, or the zero value and false if that is
// empty.
func isMade(got impl.Doc, ok bool, want string) bool {
	if want == "" {
		return !ok && isZeroDoc(got)
	}
	return ok && impl.FormatDoc(got) == want && textOf(got) == want
}

// checkChanged checks a document and an ok that a function has returned for the document d, as isMade does.
func checkChanged(t *testing.T, what string, d, got impl.Doc, ok bool, want string) {
	t.Helper()
	if !isMade(got, ok, want) {
		t.Fatalf("%s(%s) = %v, %v, want %q", what, textOf(d), got, ok, want)
	}
}

// checkNormal checks all functions of the chapter with a valid document against the tests' own way.
func checkNormal(t *testing.T, d impl.Doc) {
	t.Helper()
	text := sealed(d)
	for _, p := range passes() {
		want := p.want(text)
		if !sealedValid(want) {
			want = ""
		}
		got, ok := p.call(d)
		checkChanged(t, p.name, d, got, ok, unsealed(want))
	}
	if got, want := impl.IsNormal(d), normalText(text) == text; got != want {
		t.Fatalf("IsNormal(%s) = %v", textOf(d), got)
	}
}

// checkRendersAlike checks that what each function makes of a valid document is rendered as it is, and that a normal
// form is one.
func checkRendersAlike(t *testing.T, d impl.Doc, widths ...int) {
	t.Helper()
	for _, p := range passes() {
		other, ok := p.call(d)
		if !ok {
			continue
		}
		for _, width := range widths {
			want, _ := greedy(d, width)
			if l, ok := impl.RenderDoc(other, width); !ok || !sameRows(l, want) {
				t.Fatalf("%s(%s) = %s is rendered in %d as %s, %v, want %s", p.name, textOf(d), textOf(other), width, show(l), ok, show(want))
			}
		}
		if p.name == "NormalDoc" && !impl.IsNormal(other) {
			t.Fatalf("NormalDoc(%s) = %s is not normal", textOf(d), textOf(other))
		}
	}
}

// checkNotNormal checks that no function of the chapter takes a document that is not valid.
func checkNotNormal(t *testing.T, name string, d impl.Doc) {
	t.Helper()
	for _, p := range passes() {
		if got, ok := p.call(d); ok || !isZeroDoc(got) {
			t.Errorf("%s: %s = %v, %v", name, p.name, got, ok)
		}
	}
	if impl.IsNormal(d) {
		t.Errorf("%s: IsNormal = true", name)
	}
}
