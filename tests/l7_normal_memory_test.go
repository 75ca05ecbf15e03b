package tests

import (
	"sync"
	"testing"

	"loop.example/docalgebra/impl"
)

// normalDocs are documents of which each function changes a part, leaves a part as it is, or leaves all, and ones with
// a list of Kids at several places.
func normalDocs(t *testing.T) []impl.Doc {
	out := append(greedyDocs(t), anyDocs(40, 23)...)
	for _, text := range []string{
		"~", `"a"`, "_", `[("a"_)]`, "9<9<_>>", `2<((~"a")("b"[_]))>`, `((["ab"]~)[[("c""d")]])`, `(("abcdefghijkl""m")(_!))`,
		`[(("a"("b"(_"c")))[!])]`, `(0<"a">("b"0<_>))`, `(~("ab"2<("cd"_)>))`, `("ab""ab")`, `(("ab"_)("ab"_))`,
	} {
		out = append(out, parsed(t, text))
	}
	same := group(cat(word("ab"), nest(9, nest(1, cat(leaf(impl.OpLine), leaf(impl.OpEmpty))))))
	return append(out, cat(same, same), cat(cat(same, word("ab")), group(same)), cat(group(group(same)), cat(same, leaf(impl.OpEmpty))))
}

func TestNormalArgumentsStay(t *testing.T) {
	docs := normalDocs(t)
	for _, name := range []string{"zero", "81 nodes", "41 deep", "capital", "great nest", "one Kid"} {
		docs = append(docs, noDocs()[name])
	}
	for _, plain := range docs {
		d := roomy(plain)
		before := memory(d)
		for _, p := range passes() {
			p.call(d)
		}
		impl.IsNormal(d)
		if memory(d) != before {
			t.Fatalf("an argument %v is changed", plain)
		}
	}
}

// TestNormalMemory overwrites results, one after the other, and then the argument.
func TestNormalMemory(t *testing.T) {
	for _, plain := range normalDocs(t) {
		d := roomy(plain)
		before, others := memory(d), textsIn(d)
		var results []impl.Doc
		var wants []string
		for range 2 {
			for _, p := range passes() {
				got, ok := p.call(d)
				if !ok {
					continue
				}
				results, wants = append(results, got), append(wants, unsealed(p.want(sealed(plain))))
				checkApart(t, textsIn(got), others)
				others = append(others, textsIn(got)...)
			}
		}
		for i, got := range results {
			if textOf(got) != wants[i] {
				t.Fatalf("%s: a result is %s, want %s: it is changed by another one", textOf(plain), textOf(got), wants[i])
			}
			checkOwnKids(t, got)
		}
		if memory(d) != before {
			t.Fatalf("%s: a result shares memory with an argument", textOf(plain))
		}
	}
}

func TestNormalOutlivesArguments(t *testing.T) {
	for _, plain := range normalDocs(t) {
		for _, p := range passes() {
			d := roomy(plain)
			got, ok := p.call(d)
			scribble(d)
			if want := unsealed(p.want(sealed(plain))); ok && textOf(got) != want {
				t.Fatalf("%s(%s) = %s, want %s: it shares memory with an argument", p.name, textOf(plain), textOf(got), want)
			}
		}
	}
}

func TestNormalIsTheSameAgain(t *testing.T) {
	docs := normalDocs(t)
	for range 2 {
		for _, d := range docs {
			checkNormal(t, d)
		}
		for name, d := range noDocs() {
			checkNotNormal(t, name, d)
		}
	}
}

// TestNormalAtOnce has the same documents in several goroutines.
func TestNormalAtOnce(t *testing.T) {
	docs := normalDocs(t)
	var all sync.WaitGroup
	for range 8 {
		all.Go(func() {
			for _, d := range docs {
				want := normalText(sealed(d))
				got, ok := impl.NormalDoc(d)
				if ok != sealedValid(want) || ok && textOf(got) != unsealed(want) {
					t.Errorf("NormalDoc(%s) = %s, %v", textOf(d), textOf(got), ok)
				}
			}
		})
	}
	all.Wait()
}
