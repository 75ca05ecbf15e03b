package tests

import (
	"fmt"
	"runtime"
	"slices"
	"strings"
	"sync"
	"testing"
	"time"

	"loop.example/docalgebra/impl"
)

// roomyToks copies a list such that it has unused capacity with something in it.
func roomyToks(list []impl.Token) []impl.Token {
	c := make([]impl.Token, 0, len(list)+3)
	for _, k := range list {
		c = append(c, impl.Token{Kind: k.Kind, N: k.N, Text: strings.Clone(k.Text)})
	}
	return append(c, textTok("unused"), impl.Token{Kind: 77, N: 7, Text: "Unused"})[:len(list)]
}

// toksMemory writes all that a list refers to, unused capacity too.
func toksMemory(list []impl.Token) string { return fmt.Sprint(len(list), list[:cap(list)]) }

// scribbleToks overwrites all memory that a list refers to, unused capacity too.
func scribbleToks(list []impl.Token) {
	for i := range list[:cap(list)] {
		list[:cap(list)][i] = impl.Token{Kind: 99, N: 99, Text: "SCRIBBLED"}
	}
}

// tokTexts lists the Texts of a list.
func tokTexts(list []impl.Token) []string {
	var out []string
	for _, k := range list {
		out = append(out, k.Text)
	}
	return out
}

// memoryStreams are lists with lines of one text, of several, of a flattened group, and of none.
func memoryStreams() [][]impl.Token {
	out := anyStreams(30, 4)
	for _, signs := range []string{
		"", "abc", "_", "[]", "[abc]", "3<abc>", "abc_", "_abc", "abc_abc_abc", "[abc_de]", "[abc][de]f", "abc 2<_[de.f]>", "[abc!][_]", "[[abc]]", "[_][_]", "2<a>2<a>",
	} {
		out = append(out, toks(signs))
	}
	return out
}

var streamMemoryWidths = []int{0, 3, 6, 8, 30, 200}

func TestStreamArgumentsStay(t *testing.T) {
	lists := memoryStreams()
	for _, list := range noStreams() {
		lists = append(lists, list)
	}
	for _, plain := range lists {
		list := roomyToks(plain)
		before := toksMemory(list)
		impl.TokensValid(list)
		impl.DocOf(list)
		impl.SizesOf(list)
		for _, width := range append(streamMemoryWidths, -1, 201) {
			impl.StreamRows(list, width)
			impl.LookAhead(list, width)
		}
		if toksMemory(list) != before {
			t.Fatalf("an argument %s is changed", signsOf(plain))
		}
	}
	for _, plain := range append(greedyDocs(t), impl.Doc{}, wide(81), groups(5, word("A"))) {
		d := roomy(plain)
		before := memory(d)
		impl.TokensOf(d)
		if memory(d) != before {
			t.Fatalf("an argument %v is changed", plain)
		}
	}
}

// TestTokensMemory overwrites tokens, and then the document.
func TestTokensMemory(t *testing.T) {
	for _, plain := range greedyDocs(t) {
		d, want := roomy(plain), tokensFrom(plain)
		before := memory(d)
		first, _ := impl.TokensOf(d)
		second, _ := impl.TokensOf(d)
		own := append(tokTexts(first), tokTexts(second)...)
		checkApart(t, own, textsIn(d))
		scribbleToks(first)
		if !sameToks(second, want) || memory(d) != before {
			t.Fatalf("%s: tokens share memory", textOf(plain))
		}
		scribble(d)
		if !sameToks(second, want) {
			t.Fatalf("%s: tokens share memory with an argument", textOf(plain))
		}
	}
}

// checkApart checks that texts are in memory apart from each other and from others.
func checkApart(t *testing.T, own, others []string) {
	t.Helper()
	for i, s := range own {
		for _, other := range slices.Concat(own[:i], others) {
			if overlap(s, other) {
				t.Fatalf("%q shares memory with %q", s, other)
			}
		}
	}
}

// TestDocOfMemory overwrites documents of tokens, a part at a time, and then the tokens.
func TestDocOfMemory(t *testing.T) {
	made := 0
	for _, plain := range memoryStreams() {
		list := roomyToks(plain)
		before := toksMemory(list)
		first, ok := impl.DocOf(list)
		second, _ := impl.DocOf(list)
		if !ok {
			continue
		}
		made++
		want := textOf(docFrom(plain))
		checkApart(t, append(textsIn(first), textsIn(second)...), tokTexts(list))
		checkOwnKids(t, first)
		if textOf(second) != want || toksMemory(list) != before {
			t.Fatalf("%s: documents share memory", signsOf(plain))
		}
		scribbleToks(list)
		if textOf(second) != want {
			t.Fatalf("%s: a document shares memory with an argument", signsOf(plain))
		}
	}
	if made < 20 {
		t.Errorf("only %d documents are made of tokens", made)
	}
}

// checkOwnKids overwrites the Kids of each node of d, from the root on, and looks for changes in the ones below.
func checkOwnKids(t *testing.T, d impl.Doc) {
	t.Helper()
	kids, before := slices.Clone(d.Kids), ""
	for _, k := range kids {
		before += textOf(k)
	}
	for i := range d.Kids[:cap(d.Kids)] {
		d.Kids[:cap(d.Kids)][i] = impl.Doc{Op: 99, N: 99, Text: "scribbled"}
	}
	after := ""
	for _, k := range kids {
		after += textOf(k)
	}
	if after != before {
		t.Fatalf("parts %s of a document share memory", before)
	}
	for _, k := range kids {
		checkOwnKids(t, k)
	}
}

// TestStreamSizesMemory overwrites sizes, unused capacity too.
func TestStreamSizesMemory(t *testing.T) {
	for _, list := range memoryStreams() {
		first, _ := impl.SizesOf(list)
		second, _ := impl.SizesOf(list)
		for i := range first[:cap(first)] {
			first[:cap(first)][i] = -99
		}
		third, _ := impl.SizesOf(list)
		if want := sizesFrom(list); !slices.Equal(second, want) || !slices.Equal(third, want) {
			t.Fatalf("%s: sizes share memory", signsOf(list))
		}
	}
}

// TestStreamRowsMemory overwrites each layout, looks for changes in all others, and then overwrites the tokens.
func TestStreamRowsMemory(t *testing.T) {
	for _, plain := range memoryStreams() {
		list, widths := roomyToks(plain), append(streamMemoryWidths, streamMemoryWidths...)
		before, others := toksMemory(list), tokTexts(list)
		var layouts, wants [][]impl.Row
		for _, width := range widths {
			l, _ := impl.StreamRows(list, width)
			want, _ := greedyMarked(strings.Join(markedToks(plain), ""), width)
			layouts, wants = append(layouts, l), append(wants, want)
			checkOwnTexts(t, l, others)
			others = append(others, rowTexts(l)...)
		}
		for i, l := range layouts {
			if !sameRows(l, wants[i]) {
				t.Fatalf("%s: the layout in %d is changed by another one", signsOf(plain), widths[i])
			}
			scribbleRows(l)
		}
		if toksMemory(list) != before {
			t.Fatalf("%s: a layout shares memory with an argument", signsOf(plain))
		}
		for i, width := range widths {
			other := roomyToks(plain)
			l, _ := impl.StreamRows(other, width)
			scribbleToks(other)
			if !sameRows(l, wants[i]) {
				t.Fatalf("%s: the layout in %d shares memory with an argument", signsOf(plain), width)
			}
		}
	}
}

func TestStreamIsTheSameAgain(t *testing.T) {
	for range 2 {
		for _, list := range memoryStreams() {
			checkStream(t, list, streamMemoryWidths...)
		}
		for _, d := range greedyDocs(t) {
			checkTokens(t, d, tokensFrom(d))
		}
	}
}

// TestTokensAtOnce takes the tokens of the same documents in several goroutines, and looks for goroutines that are left.
func TestTokensAtOnce(t *testing.T) {
	docs, before := append(greedyDocs(t), impl.Doc{}, wide(81)), runtime.NumGoroutine()
	var all sync.WaitGroup
	for range 8 {
		all.Go(func() {
			for _, d := range docs {
				list, ok := impl.TokensOf(d)
				if ok != impl.DocValid(d) || ok && !sameToks(list, tokensFrom(d)) {
					t.Errorf("TokensOf(%v) = %s, %v", d, signsOf(list), ok)
				}
			}
		})
	}
	all.Wait()
	for range 1000 {
		if runtime.NumGoroutine() <= before {
			return
		}
		time.Sleep(10 * time.Millisecond)
	}
	t.Errorf("there are %d goroutines more than before", runtime.NumGoroutine()-before)
}
