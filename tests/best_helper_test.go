package tests

import (
	"fmt"
	"math/rand/v2"
	"testing"

	"loop.example/docalgebra/impl"
)

// offer is a layout with the numbers of bytes of its lines, so that its cost in many widths does not take long.
type offer struct {
	rows    []impl.Row
	lengths []int
}

func offersOf(list [][]impl.Row) []offer {
	var out []offer
	for _, l := range list {
		o := offer{rows: l}
		for _, s := range lineTexts(l) {
			o.lengths = append(o.lengths, len(s))
		}
		out = append(out, o)
	}
	return out
}

// price is the cost of an offer.
func (o offer) price(width int) impl.Cost {
	c := impl.Cost{Lines: len(o.lengths)}
	for _, n := range o.lengths {
		if n > width {
			c.Over += n - width
		}
	}
	return c
}

// longest is the number of bytes of the longest line.
func (o offer) longest() int {
	most := 0
	for _, n := range o.lengths {
		most = max(most, n)
	}
	return most
}

// cheaper reports whether a is less than b.
func cheaper(a, b impl.Cost) bool {
	if a.Over == b.Over {
		return a.Lines < b.Lines
	}
	return a.Over < b.Over
}

// cheapest is the first one of the offers with the least cost: no other one is cheaper, and none in front of it costs as
// little.
func cheapest(offers []offer, width int) offer {
	var prices []impl.Cost
	for _, o := range offers {
		prices = append(prices, o.price(width))
	}
	for i, o := range offers {
		least := true
		for _, other := range prices {
			least = least && !cheaper(other, prices[i])
		}
		if least {
			return o
		}
	}
	return offer{}
}

// greedyPrice is the cost of a rendered layout, by the tests' own way to render.
func greedyPrice(d impl.Doc, width int) impl.Cost {
	l, _ := greedy(d, width)
	return offersOf([][]impl.Row{l})[0].price(width)
}

// gapBetween is a minus b, in each part.
func gapBetween(a, b impl.Cost) impl.Cost {
	return impl.Cost{Over: a.Over - b.Over, Lines: a.Lines - b.Lines}
}

// firstGap is the least width up to most in which a rendered layout costs more than the best one, or -1.
func firstGap(d impl.Doc, most int) int {
	offers := offersOf(choicesOf(d))
	for width := range most + 1 {
		if greedyPrice(d, width) != cheapest(offers, width).price(width) {
			return width
		}
	}
	return -1
}

// unbeaten lists the offers that no other one beats.
func unbeaten(offers []offer) [][]impl.Row {
	var out [][]impl.Row
	for _, o := range offers {
		beaten := false
		for _, other := range offers {
			narrower, shorter := other.longest() < o.longest(), len(other.rows) < len(o.rows)
			wider, longer := other.longest() > o.longest(), len(other.rows) > len(o.rows)
			beaten = beaten || (narrower || shorter) && !wider && !longer
		}
		if !beaten {
			out = append(out, o.rows)
		}
	}
	return out
}

// toldDocs lists the documents of list that have at most 300 choices.
func toldDocs(list []impl.Doc) []impl.Doc {
	var out []impl.Doc
	for _, d := range list {
		if n, ok := impl.CountChoices(d); ok && n <= 300 {
			out = append(out, d)
		}
	}
	return out
}

// anyRows are count rows of texts and groups, always the same ones: with few choices each, but with many gaps, as some
// groups are newlines alone, and some have a newline with a great indentation.
func anyRows(count int, seed uint64) []impl.Doc {
	r := rand.New(rand.NewPCG(seed, 5))
	var out []impl.Doc
	for range count {
		d := texts(r.IntN(4))
		for range 2 + r.IntN(4) {
			part := cat(leaf(impl.OpLine+r.IntN(2)), texts(r.IntN(2)*r.IntN(9)))
			for range r.IntN(3) {
				part = cat(leaf(impl.OpBreak), part)
			}
			d = cat(cat(texts(r.IntN(6)), nest(r.IntN(2)*9, group(part))), d)
		}
		out = append(out, d)
	}
	return out
}

// checkBestIs checks what the functions make of a valid document in a valid width.
func checkBestIs(t *testing.T, d impl.Doc, width int, rows []impl.Row, cost, gap impl.Cost) {
	t.Helper()
	if l, ok := impl.BestLayout(d, width); !ok || !sameRows(l, rows) {
		t.Fatalf("BestLayout(%s, %d) = %s, %v, want %s", textOf(d), width, show(l), ok, show(rows))
	}
	if c, ok := impl.BestCost(d, width); !ok || c != cost {
		t.Fatalf("BestCost(%s, %d) = %v, %v, want %v", textOf(d), width, c, ok, cost)
	}
	if g, ok := impl.GreedyGap(d, width); !ok || g != gap {
		t.Fatalf("GreedyGap(%s, %d) = %v, %v, want %v", textOf(d), width, g, ok, gap)
	}
}

// checkBest checks the functions that have a width against the tests' own layouts and costs, and returns the gaps.
func checkBest(t *testing.T, d impl.Doc, widths ...int) []impl.Cost {
	t.Helper()
	var gaps []impl.Cost
	offers := offersOf(eachOnce(choicesOf(d)))
	for _, width := range widths {
		best := cheapest(offers, width)
		gap := gapBetween(greedyPrice(d, width), best.price(width))
		checkBestIs(t, d, width, best.rows, best.price(width), gap)
		gaps = append(gaps, gap)
	}
	return gaps
}

// checkFirstGap checks FirstGap: want, or 0 and false if that is negative.
func checkFirstGap(t *testing.T, d impl.Doc, want int) {
	t.Helper()
	if width, ok := impl.FirstGap(d); width != max(want, 0) || ok != (want >= 0) {
		t.Fatalf("FirstGap(%s) = %d, %v, want %d", textOf(d), width, ok, want)
	}
}

// checkPareto checks ParetoLayouts of a valid document that has at most 300 choices.
func checkPareto(t *testing.T, d impl.Doc) {
	t.Helper()
	list, ok := impl.ParetoLayouts(d)
	checkList(t, fmt.Sprintf("ParetoLayouts(%s)", textOf(d)), list, ok, unbeaten(offersOf(eachOnce(choicesOf(d)))))
}

// checkDocBest checks all functions of the chapter that have a document, those that have a width in some widths; there
// is no gap in a width beyond most.
func checkDocBest(t *testing.T, d impl.Doc, most int, widths ...int) {
	t.Helper()
	checkBest(t, d, widths...)
	checkFirstGap(t, d, firstGap(d, most))
	checkPareto(t, d)
}

// checkNoBest checks that the functions that have a width return nothing.
func checkNoBest(t *testing.T, name string, d impl.Doc, width int) {
	t.Helper()
	if l, ok := impl.BestLayout(d, width); ok || len(l) > 0 {
		t.Errorf("%s: BestLayout(.., %d) = %s, %v", name, width, show(l), ok)
	}
	if c, ok := impl.BestCost(d, width); ok || c != (impl.Cost{}) {
		t.Errorf("%s: BestCost(.., %d) = %v, %v", name, width, c, ok)
	}
	if g, ok := impl.GreedyGap(d, width); ok || g != (impl.Cost{}) {
		t.Errorf("%s: GreedyGap(.., %d) = %v, %v", name, width, g, ok)
	}
}

// checkNothingBest checks that all functions of the chapter that have a document return nothing.
func checkNothingBest(t *testing.T, name string, d impl.Doc, widths ...int) {
	t.Helper()
	for _, width := range widths {
		checkNoBest(t, name, d, width)
	}
	if list, ok := impl.ParetoLayouts(d); ok || len(list) > 0 {
		t.Errorf("%s: ParetoLayouts = %d layouts, %v", name, len(list), ok)
	}
	if width, ok := impl.FirstGap(d); ok || width != 0 {
		t.Errorf("%s: FirstGap = %d, %v", name, width, ok)
	}
}
