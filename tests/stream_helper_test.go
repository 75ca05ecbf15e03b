package tests

import (
	"fmt"
	"math/rand/v2"
	"slices"
	"strings"
	"testing"

	"loop.example/docalgebra/impl"
)

// tok is a token that has only a kind.
func tok(kind int) impl.Token { return impl.Token{Kind: kind} }

func textTok(s string) impl.Token { return impl.Token{Kind: impl.TokText, Text: s} }

func inTok(n int) impl.Token { return impl.Token{Kind: impl.TokIn, N: n} }

// tokSigns has the sign of each kind but TokText and TokIn, which are written as letters and as a digit.
var tokSigns = map[int]string{
	impl.TokLine: "_", impl.TokBreak: ".", impl.TokHard: "!", impl.TokBegin: "[", impl.TokEnd: "]", impl.TokOut: ">",
}

// toks reads a list of tokens. Spaces, which part texts, and the second sign of a nest are left out.
func toks(signs string) []impl.Token {
	var list []impl.Token
	for signs != "" {
		n := len(signs) - len(strings.TrimLeft(signs, "abcdefghijklmnopqrstuvwxyz"))
		if n > 0 {
			list, signs = append(list, textTok(signs[:n])), signs[n:]
			continue
		}
		c := signs[:1]
		signs = signs[1:]
		if c >= "0" && c <= "9" {
			list = append(list, inTok(int(c[0]-'0')))
		}
		for kind, sign := range tokSigns {
			if sign == c {
				list = append(list, tok(kind))
			}
		}
	}
	return list
}

// signsOf writes a list for a message, whether it is valid or not.
func signsOf(list []impl.Token) string {
	var out strings.Builder
	for _, k := range list {
		fmt.Fprintf(&out, "{%d %d %.14q}", k.Kind, k.N, k.Text)
	}
	return fmt.Sprintf("%d %.2000s", len(list), out.String())
}

// sameToks compares lists without the program.
func sameToks(a, b []impl.Token) bool { return slices.Equal(a, b) }

// repeated is a list of n copies of part.
func repeated(n int, part ...impl.Token) []impl.Token {
	var list []impl.Token
	for range n {
		list = append(list, part...)
	}
	return list
}

// joined is a list of all tokens of several ones.
func joined(lists ...[]impl.Token) []impl.Token {
	var list []impl.Token
	for _, l := range lists {
		list = append(list, l...)
	}
	return list
}

// enclosed puts inside into n groups or nests of 9, by turns of the kinds first and second.
func enclosed(n int, first, second int, inside []impl.Token) []impl.Token {
	var front, back []impl.Token
	for i := range n {
		kind := []int{first, second}[i%2]
		open, end := tok(kind), tok(kind+1)
		if kind == impl.TokIn {
			open.N = 9
		}
		front, back = append(front, open), append([]impl.Token{end}, back...)
	}
	return joined(front, inside, back)
}

// nestsToks puts inside into nests with n more spaces behind each newline.
func nestsToks(n int, inside []impl.Token) []impl.Token {
	for ; n > 9; n -= 9 {
		inside = joined([]impl.Token{inTok(9)}, inside, toks(">"))
	}
	return joined([]impl.Token{inTok(n)}, inside, toks(">"))
}

// textsToks is a list of n bytes in one line.
func textsToks(n int) []impl.Token {
	var list []impl.Token
	for ; n > 0; n -= 12 {
		list = append(list, textTok(letters(min(n, 12))))
	}
	return list
}

// tokensFrom reads the tokens of a document from its text.
func tokensFrom(d impl.Doc) []impl.Token {
	var list []impl.Token
	quoted, text := false, ""
	for _, c := range textOf(d) {
		switch {
		case c == '"' && quoted:
			list, quoted, text = append(list, textTok(text)), false, ""
		case c == '"':
			quoted = true
		case quoted:
			text += string(c)
		default:
			list = append(list, toks(string(c))...)
		}
	}
	return list
}

// docFrom builds the document of a valid list from its last token on; a nil document is none.
func docFrom(list []impl.Token) impl.Doc {
	rows := []*impl.Doc{nil}
	for i := len(list) - 1; i >= 0; i-- {
		last := len(rows) - 1
		d := impl.Doc{Op: list[i].Kind + 1, Text: list[i].Text}
		switch list[i].Kind {
		case impl.TokEnd, impl.TokOut:
			rows = append(rows, nil)
			continue
		case impl.TokBegin:
			d = group(orEmpty(rows[last]))
			rows = rows[:last]
		case impl.TokIn:
			d = nest(list[i].N, orEmpty(rows[last]))
			rows = rows[:last]
		}
		if behind := rows[len(rows)-1]; behind != nil {
			d = cat(d, *behind)
		}
		rows[len(rows)-1] = &d
	}
	return orEmpty(rows[0])
}

func orEmpty(d *impl.Doc) impl.Doc {
	if d == nil {
		return leaf(impl.OpEmpty)
	}
	return *d
}

// closed reports whether all that is opened in a list is closed in order: pairs with nothing between them are removed
// until there are no more.
func closed(list []impl.Token) bool {
	signs := ""
	for _, k := range list {
		signs += map[int]string{impl.TokBegin: "[", impl.TokEnd: "]", impl.TokIn: "<", impl.TokOut: ">"}[k.Kind]
	}
	for {
		less := strings.ReplaceAll(strings.ReplaceAll(signs, "[]", ""), "<>", "")
		if less == signs {
			return signs == ""
		}
		signs = less
	}
}

// markedToks writes each token of a valid list as in a marked text.
func markedToks(list []impl.Token) []string {
	var out []string
	for _, k := range list {
		s := tokSigns[k.Kind]
		for _, c := range []byte(k.Text) {
			s += string([]byte{c + mark})
		}
		if k.Kind == impl.TokIn {
			s = fmt.Sprint(k.N)
		}
		out = append(out, s)
	}
	return out
}

// sizesFrom measures the tokens of a valid list in its marked text.
func sizesFrom(list []impl.Token) []int {
	var out []int
	parts := markedToks(list)
	for i, s := range parts {
		size := len(markedFlat(s))
		if s == "[" {
			_, inside, behind, _ := firstGroup(strings.Join(parts[i:], ""))
			size = len(markedFlat(inside)) + markedLead(behind)
			if strings.Contains(inside, "!") {
				size = -1
			}
		}
		out = append(out, size)
	}
	return out
}

// aheadFrom goes through the groups of a valid list that are met, which flags tells to be flattened or not.
func aheadFrom(list []impl.Token, flags []bool) int {
	parts := markedToks(list)
	most := 0
	for i := 0; i < len(parts); i++ {
		if parts[i] != "[" {
			continue
		}
		end := i
		for n := 0; end == i || n > 0; end++ {
			n += strings.Count(parts[end], "[") - strings.Count(parts[end], "]")
		}
		stop := i
		for stop < len(parts) && (stop >= end || parts[stop] != "!") && (stop < end || !strings.Contains("_.!", parts[stop])) {
			stop++
		}
		most = max(most, stop-i)
		if flags[0] {
			i = end - 1
		}
		flags = flags[1:]
	}
	return most
}

// checkTokens checks TokensOf with a valid document.
func checkTokens(t *testing.T, d impl.Doc, want []impl.Token) {
	t.Helper()
	list, ok := impl.TokensOf(d)
	if !ok || !sameToks(list, want) {
		t.Fatalf("TokensOf(%s) = %s, %v, want %s", textOf(d), signsOf(list), ok, signsOf(want))
	}
	if !impl.TokensValid(list) {
		t.Fatalf("TokensValid(%s) = false", signsOf(list))
	}
}

// checkDocOf checks DocOf with a valid list: it returns want, or nothing if that is no valid document.
func checkDocOf(t *testing.T, list []impl.Token, want impl.Doc) {
	t.Helper()
	d, ok := impl.DocOf(list)
	if !impl.DocValid(want) {
		if ok || !isZeroDoc(d) {
			t.Fatalf("DocOf(%s) = %v, %v", signsOf(list), d, ok)
		}
		return
	}
	if !ok || textOf(d) != textOf(want) {
		t.Fatalf("DocOf(%s) = %s, %v, want %s", signsOf(list), textOf(d), ok, textOf(want))
	}
	checkTokens(t, d, list)
}

func checkStreamSizes(t *testing.T, list []impl.Token, want []int) {
	t.Helper()
	sizes, ok := impl.SizesOf(list)
	if !ok || fmt.Sprint(sizes) != fmt.Sprint(want) {
		t.Fatalf("SizesOf(%s) = %v, %v, want %v", signsOf(list), sizes, ok, want)
	}
}

// checkStreamIs checks what the functions that have a width make of a valid list in a valid width.
func checkStreamIs(t *testing.T, list []impl.Token, width int, rows []impl.Row, ahead int) {
	t.Helper()
	if l, ok := impl.StreamRows(list, width); !ok || !sameRows(l, rows) {
		t.Fatalf("StreamRows(%s, %d) = %s, %v, want %s", signsOf(list), width, show(l), ok, show(rows))
	}
	if n, ok := impl.LookAhead(list, width); !ok || n != ahead {
		t.Fatalf("LookAhead(%s, %d) = %d, %v, want %d", signsOf(list), width, n, ok, ahead)
	}
}

// checkStream checks all functions of the chapter with a valid list against the tests' own ways.
func checkStream(t *testing.T, list []impl.Token, widths ...int) {
	t.Helper()
	if !impl.TokensValid(list) {
		t.Fatalf("TokensValid(%s) = false", signsOf(list))
	}
	checkDocOf(t, list, docFrom(list))
	checkStreamSizes(t, list, sizesFrom(list))
	text := strings.Join(markedToks(list), "")
	for _, width := range widths {
		rows, flags := greedyMarked(text, width)
		checkStreamIs(t, list, width, rows, aheadFrom(list, flags))
	}
}

// checkNotStreamed checks that the functions that have a width return nothing.
func checkNotStreamed(t *testing.T, name string, list []impl.Token, width int) {
	t.Helper()
	if l, ok := impl.StreamRows(list, width); ok || len(l) > 0 {
		t.Errorf("%s: StreamRows(.., %d) = %s, %v", name, width, show(l), ok)
	}
	if n, ok := impl.LookAhead(list, width); ok || n != 0 {
		t.Errorf("%s: LookAhead(.., %d) = %d, %v", name, width, n, ok)
	}
}

// checkNoStream checks that all functions return nothing for a list that is not valid.
func checkNoStream(t *testing.T, name string, list []impl.Token, widths ...int) {
	t.Helper()
	if impl.TokensValid(list) {
		t.Errorf("%s: TokensValid = true", name)
	}
	if d, ok := impl.DocOf(list); ok || !isZeroDoc(d) {
		t.Errorf("%s: DocOf = %v, %v", name, d, ok)
	}
	if sizes, ok := impl.SizesOf(list); ok || len(sizes) > 0 {
		t.Errorf("%s: SizesOf = %v, %v", name, sizes, ok)
	}
	for _, width := range widths {
		checkNotStreamed(t, name, list, width)
	}
}

// anyToks is a valid list of n tokens that the numbers of r decide on: opens of 10 open something, if this can be closed
// again, and one of hards that open and close nothing is a TokHard.
func anyToks(r *rand.Rand, n, opens, hards int) []impl.Token {
	var list, ends []impl.Token
	for len(list) < n {
		left, k := n-len(list), r.IntN(10)
		switch {
		case left == len(ends) || k >= 7 && len(ends) > 0:
			list, ends = append(list, ends[len(ends)-1]), ends[:len(ends)-1]
		case k < opens && left > len(ends)+1 && len(ends) < 50 && r.IntN(3) == 0:
			list, ends = append(list, inTok(r.IntN(10))), append(ends, tok(impl.TokOut))
		case k < opens && left > len(ends)+1 && len(ends) < 50:
			list, ends = append(list, tok(impl.TokBegin)), append(ends, tok(impl.TokEnd))
		case r.IntN(hards) == 0:
			list = append(list, tok(impl.TokHard))
		case r.IntN(2) == 0:
			list = append(list, textTok(letters(1+r.IntN(12))))
		default:
			list = append(list, tok(impl.TokLine+r.IntN(2)))
		}
	}
	return list
}

// anyStreams are count lists of anyToks, always the same ones, shorter and longer ones, with few and many groups.
func anyStreams(count int, seed uint64) [][]impl.Token {
	r := rand.New(rand.NewPCG(seed, 6))
	var out [][]impl.Token
	for i := range count {
		out = append(out, anyToks(r, r.IntN([]int{12, 40, 200}[i%3]), 2+r.IntN(5), []int{3, 20, 1000}[r.IntN(3)]))
	}
	return out
}

// noStreams are lists that are not valid.
func noStreams() map[string][]impl.Token {
	all := map[string][]impl.Token{
		"200 tokens":        repeated(200, tok(impl.TokLine)),
		"200 closed tokens": repeated(50, toks("[2<>]")...),
		"201 tokens":        repeated(201, textTok("a")),
		"many tokens":       repeated(100_000, toks("[a]")...),
		"51 groups open":    enclosed(51, impl.TokBegin, impl.TokBegin, toks("a_")),
		"51 nests open":     enclosed(51, impl.TokIn, impl.TokIn, toks("a_")),
		"51 of both open":   enclosed(51, impl.TokBegin, impl.TokIn, nil),
		"51 behind others":  joined(repeated(30, toks("[]")...), enclosed(51, impl.TokIn, impl.TokBegin, nil)),
	}
	for _, signs := range []string{
		"[", "]", "2<", ">", "[a_b", "a_b]", "2<a_b", "a_b>", "][", ">2<", "[2<", "[>", "2<]", "[2<]>", "2<[>]", "[2<]", "[>]",
		"[a]]", "[[a]", "2<a>>", "2<3<a>", "[a]>", "2<a>]", "[a]2<", "[a][", "[a2<b_]c>", "2<[a]>]", "[2<a>", "]a[", "[][", "2<>>", "2<>[",
		"[[2<]>]", "[2<[>]]", "2<[3<>]", "2<[3<]>>",
	} {
		all[signs] = toks(signs)
	}
	for _, kind := range []int{-1 << 63, -5, -1, 0, 9, 10, 1 << 32, 1<<63 - 1} {
		all[fmt.Sprintf("kind %d", kind)] = []impl.Token{tok(kind)}
		all[fmt.Sprintf("kind %d with a Text", kind)] = []impl.Token{{Kind: kind, Text: "a"}}
		all[fmt.Sprintf("kind %d in a group", kind)] = []impl.Token{tok(impl.TokBegin), tok(kind), tok(impl.TokEnd)}
	}
	for _, s := range []string{"", "A", " ", "a b", "\n", "é", "a\x00", `"`, "-", "abcdefghijklm", letters(2000)} {
		all[fmt.Sprintf("Text %.20q", s)] = []impl.Token{textTok(s)}
		all[fmt.Sprintf("last Text %.20q", s)] = joined(toks("a_[b]"), []impl.Token{textTok(s)})
	}
	for kind, name := range map[int]string{2: "_", 3: ".", 4: "!", 5: "[", 6: "]", 7: "2<", 8: ">"} {
		for i, k := range toks("_.![]2<>") {
			if k.Kind == kind {
				list := toks("_.![]2<>")
				list[i].Text = "a"
				all[name+" with a Text"] = list
			}
		}
	}
	for i, k := range toks("a_.![]2<>") {
		for _, n := range []int{-1 << 63, -1, 1, 9, 10, 1<<63 - 1} {
			list := toks("a_.![]2<>")
			list[i].N = n
			if k.Kind != impl.TokIn || n != 1 && n != 9 {
				all[fmt.Sprintf("kind %d with the N %d", k.Kind, n)] = list
			}
		}
	}
	return all
}
