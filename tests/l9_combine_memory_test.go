package tests

import (
	"slices"
	"strings"
	"sync"
	"testing"

	"loop.example/docalgebra/impl"
)

// maker is a function that makes one document or several ones of a list with at least one, with what the tests make of
// sealed texts instead.
type maker struct {
	name string
	call func([]impl.Doc) []impl.Doc
	want func([]string) []string
}

const (
	leftText  = "left=("
	rightText = ")right"
)

func makers() []maker {
	one := func(d impl.Doc, ok bool) []impl.Doc {
		if !ok {
			return nil
		}
		return []impl.Doc{d}
	}
	out := []maker{
		{"PunctuateDocs", func(list []impl.Doc) []impl.Doc { got, _ := impl.PunctuateDocs(leftText, list); return got },
			func(list []string) []string { return punctuatedTexts(leftText, list) }},
		{"BracketDoc", func(list []impl.Doc) []impl.Doc { return one(impl.BracketDoc(leftText, 2, list[0], rightText)) },
			func(list []string) []string { return []string{bracketText(leftText, 2, list[0], rightText)} }},
		{"BracketDoc of one text", func(list []impl.Doc) []impl.Doc { return one(impl.BracketDoc(leftText, 2, list[0], leftText)) },
			func(list []string) []string { return []string{bracketText(leftText, 2, list[0], leftText)} }},
		{"HangDoc", func(list []impl.Doc) []impl.Doc { return one(impl.HangDoc(rightText, 3, list[0])) },
			func(list []string) []string { return []string{hangText(rightText, 3, list[0])} }},
		{"RepeatText", func([]impl.Doc) []impl.Doc { return one(impl.RepeatText(leftText, 20)) },
			func([]string) []string { return []string{repeatText(leftText, 20)} }},
	}
	for _, c := range combiners() {
		out = append(out, maker{c.name, func(list []impl.Doc) []impl.Doc { return one(c.call(list)) },
			func(list []string) []string { return []string{c.want(list)} }})
	}
	return out
}

// wants are the texts that a maker makes of valid documents, or nothing if one of them is not valid.
func (m maker) wants(list []impl.Doc) []string {
	out := m.want(sealedAll(list))
	for i, text := range out {
		if out[i] = wantedText(len(list), text); out[i] == "" {
			return nil
		}
	}
	return out
}

// memoryLists are lists of valid documents, some of them with the same one several times.
func memoryLists(t *testing.T) [][]impl.Doc {
	docs := memoryDocs(t)
	out := [][]impl.Doc{docs[:1], docs[1:3], docs[:5], docs[4:9], slices.Repeat(docs[:1], 19), slices.Repeat(docs[4:5], 3), slices.Repeat(docs[8:9], 2)}
	for _, d := range docs {
		out = append(out, []impl.Doc{d}, []impl.Doc{d, d}, []impl.Doc{d, leaf(impl.OpEmpty), d})
	}
	for _, d := range anyDocs(20, 92) {
		out = append(out, []impl.Doc{d}, []impl.Doc{word("abc"), d})
	}
	return out
}

// roomyList copies a list such that it, and each list of Kids in it, has unused capacity with something in it.
func roomyList(list []impl.Doc) []impl.Doc { return roomy(impl.Doc{Kids: list}).Kids }

// listMemory writes all that a list refers to, unused capacity too.
func listMemory(list []impl.Doc) string { return memory(impl.Doc{Kids: list}) }

// listTexts lists the Texts in a list.
func listTexts(list []impl.Doc) []string { return textsIn(impl.Doc{Kids: list}) }

func TestCombinedArgumentsStay(t *testing.T) {
	lists, none := memoryLists(t), noDocs()
	for _, name := range []string{"zero", "81 nodes", "41 deep", "capital", "great nest", "one Kid"} {
		d := none[name]
		lists = append(lists, []impl.Doc{d}, []impl.Doc{word("a"), d, word("b")}, slices.Repeat([]impl.Doc{d}, 20))
	}
	lists = append(lists, nil, slices.Repeat([]impl.Doc{word("a")}, 20))
	for _, plain := range lists {
		list := roomyList(plain)
		before := listMemory(list)
		for _, m := range makers() {
			if len(list) > 0 || strings.HasSuffix(m.name, "Docs") {
				m.call(list)
			}
		}
		impl.PunctuateDocs("A", list)
		if listMemory(list) != before {
			t.Fatalf("an argument %v is changed", plain)
		}
	}
}

// TestCombinedMemory overwrites results, one after the other, and each of their parts.
func TestCombinedMemory(t *testing.T) {
	for _, plain := range memoryLists(t) {
		list := roomyList(plain)
		before, others := listMemory(list), append(listTexts(list), leftText, rightText)
		var results []impl.Doc
		var wants []string
		for range 2 {
			for _, m := range makers() {
				got := m.call(list)
				if len(got) != len(m.wants(plain)) {
					t.Fatalf("%s of %s has %d results", m.name, textsOf(plain), len(got))
				}
				results, wants = append(results, got...), append(wants, m.wants(plain)...)
			}
		}
		for i, got := range results {
			own := textsIn(got)
			checkOwnDocs(t, wants[i], []impl.Doc{got}, others)
			others = append(others, own...)
		}
		if listMemory(list) != before {
			t.Fatalf("%s: a result shares memory with an argument", textsOf(plain))
		}
	}
}

// TestPunctuatedListMemory overwrites the lists that PunctuateDocs returns, unused capacity too.
func TestPunctuatedListMemory(t *testing.T) {
	for _, plain := range memoryLists(t) {
		list := roomyList(plain)
		before := listMemory(list)
		first, _ := impl.PunctuateDocs(",", list)
		second, _ := impl.PunctuateDocs(",", list)
		want := listMemory(second)
		for i := range first[:cap(first)] {
			first[:cap(first)][i] = impl.Doc{Op: 99, N: 99, Text: "scribbled"}
		}
		if listMemory(list) != before || listMemory(second) != want {
			t.Fatalf("%s: a result shares memory with an argument or another result", textsOf(plain))
		}
	}
}

func TestCombinedOutlivesArguments(t *testing.T) {
	for _, plain := range memoryLists(t) {
		for _, m := range makers() {
			list := roomyList(plain)
			got, wants := m.call(list), m.wants(plain)
			scribble(impl.Doc{Kids: list})
			for i, d := range got {
				if textOf(d) != wants[i] {
					t.Fatalf("%s of %s has %s, want %s: it shares memory with an argument", m.name, textsOf(plain), textOf(d), wants[i])
				}
			}
		}
	}
}

// TestCombinedOfItsParts has lists with common memory: a document and its Kids, and the Kids themselves.
func TestCombinedOfItsParts(t *testing.T) {
	d := roomy(group(cat(word("abc"), cat(leaf(impl.OpLine), word("abc")))))
	for _, list := range [][]impl.Doc{{d, d.Kids[0], d}, d.Kids[0].Kids, d.Kids} {
		for _, m := range makers() {
			plain := roomyList(list)
			before, others := listMemory(list), append(listTexts(list), leftText, rightText)
			for i, got := range m.call(list) {
				own := textsIn(got)
				checkOwnDocs(t, m.wants(plain)[i], []impl.Doc{got}, others)
				others = append(others, own...)
			}
			if listMemory(list) != before {
				t.Fatalf("%s: a result shares memory with an argument", m.name)
			}
		}
	}
}

// TestCombinedTextsInALongOne has texts that are parts of a long one.
func TestCombinedTextsInALongOne(t *testing.T) {
	long := strings.Repeat("abcdefghijkl", 1000)
	bracket, _ := impl.BracketDoc(long[:12], 1, word("x"), long[12:24])
	hang, _ := impl.HangDoc(long[3:9], 1, word("x"))
	repeat, _ := impl.RepeatText(long[5:6], 20)
	punctuated, ok := impl.PunctuateDocs(long[7:8], slices.Repeat([]impl.Doc{word("x")}, 19))
	if !ok || len(punctuated) != 19 {
		t.Fatalf("PunctuateDocs = %v, %v", punctuated, ok)
	}
	checkApart(t, slices.Concat(textsIn(bracket), textsIn(hang), textsIn(repeat), listTexts(punctuated)), []string{long})
}

func TestCombinedIsTheSameAgain(t *testing.T) {
	lists, none := memoryLists(t), noDocs()
	for range 2 {
		for _, list := range lists {
			checkCombined(t, list, 0, 9, 200)
			checkAround(t, leftText, 4, list[0], rightText, 0, 9, 200)
		}
		for name, d := range none {
			checkNotCombined(t, name, []impl.Doc{d})
		}
		for count := -1; count <= 21; count++ {
			checkRepeat(t, leftText, count, 0, 200)
		}
	}
}

// TestCombinedAtOnce has the same documents in several goroutines.
func TestCombinedAtOnce(t *testing.T) {
	lists := memoryLists(t)
	var all sync.WaitGroup
	for range 8 {
		all.Go(func() {
			for _, list := range lists {
				for _, m := range makers() {
					wants := m.wants(list)
					for i, d := range m.call(list) {
						if textOf(d) != wants[i] {
							t.Errorf("%s of %s has %s, want %s", m.name, textsOf(list), textOf(d), wants[i])
						}
					}
				}
			}
		})
	}
	all.Wait()
}
