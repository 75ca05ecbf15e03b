package impl

import (
	"math"
	"strconv"
	"strings"
)

// Doc is a document.
type Doc struct {
	Op   int
	N    int
	Text string
	Kids []Doc
}

// Kinds of documents, and their limits.
const (
	OpEmpty  = 1
	OpText   = 2
	OpLine   = 3
	OpBreak  = 4
	OpHard   = 5
	OpNest   = 6
	OpCat    = 7
	OpGroup  = 8
	MaxText  = 12
	MaxNest  = 9
	MaxNodes = 80
	MaxDepth = 40
)

// textSigns are the bytes of texts that are neither letters nor digits.
const textSigns = ",:={}()[]"

// TextValid reports whether s can be the text of a document.
func TextValid(s string) bool {
	if len(s) < 1 || len(s) > MaxText {
		return false
	}
	for i := range len(s) {
		if !isTextByte(s[i]) {
			return false
		}
	}
	return true
}

func isTextByte(c byte) bool {
	return c >= 'a' && c <= 'z' || c >= '0' && c <= '9' || strings.IndexByte(textSigns, c) >= 0
}

// DocValid reports whether d is a document.
func DocValid(d Doc) bool {
	left := MaxNodes
	return partValid(d, 1, &left)
}

// partValid checks d, which is the node number depth on the way down, and takes its nodes from those that are left:
// counting along ends the walk early also where a few lists of Kids stand for a great many nodes.
func partValid(d Doc, depth int, left *int) bool {
	*left--
	if *left < 0 || depth > MaxDepth || !nodeValid(d) {
		return false
	}
	for _, k := range d.Kids {
		if !partValid(k, depth+1, left) {
			return false
		}
	}
	return true
}

// nodeValid reports whether the fields of d fit its kind, whatever its Kids are.
func nodeValid(d Doc) bool {
	kids, textFits, nFits := 0, d.Text == "", d.N == 0
	switch d.Op {
	case OpEmpty, OpLine, OpBreak, OpHard:
	case OpText:
		textFits = TextValid(d.Text)
	case OpNest:
		kids, nFits = 1, d.N >= 0 && d.N <= MaxNest
	case OpCat:
		kids = 2
	case OpGroup:
		kids = 1
	default:
		return false
	}
	return len(d.Kids) == kids && textFits && nFits
}

// kidList tells lists of Kids apart by where they are in memory. In a document that is not valid, one list can be
// at many places and even within itself, so going through each list once is what makes a walk end.
type kidList struct {
	first  *Doc
	length int
}

// kidListOf takes a list that is not empty.
func kidListOf(kids []Doc) kidList {
	return kidList{first: &kids[0], length: len(kids)}
}

// DocSame reports whether two documents are equal.
func DocSame(a Doc, b Doc) bool {
	compared := map[[2]kidList]bool{}
	work := [][2]Doc{{a, b}}
	for len(work) > 0 {
		x, y := work[len(work)-1][0], work[len(work)-1][1]
		work = work[:len(work)-1]
		if !nodeSame(x, y) {
			return false
		}
		if len(x.Kids) == 0 {
			continue
		}
		lists := [2]kidList{kidListOf(x.Kids), kidListOf(y.Kids)}
		if compared[lists] {
			continue
		}
		compared[lists] = true
		for i := range x.Kids {
			work = append(work, [2]Doc{x.Kids[i], y.Kids[i]})
		}
	}
	return true
}

// nodeSame reports whether a and b are equal but for what their Kids are.
func nodeSame(a Doc, b Doc) bool {
	return a.Op == b.Op && a.N == b.N && a.Text == b.Text && len(a.Kids) == len(b.Kids)
}

// DocSize returns the number of nodes of a document.
func DocSize(d Doc) int {
	return countNodes(d, func(int) bool { return true })
}

// CountOps returns how many nodes of a kind a document has.
func CountOps(d Doc, op int) int {
	return countNodes(d, func(other int) bool { return other == op })
}

// countNodes returns how many nodes of d have an Op that matches.
func countNodes(d Doc, match func(op int) bool) int {
	// The stack is a slice because a document that is not valid can be too deep for calls.
	type step struct {
		kids    []Doc
		reached bool
	}
	root := []Doc{d}
	c := nodeCounter{match: match, counts: map[kidList]int{}, endless: map[kidList]bool{}}
	stack := []step{{kids: root}}
	for len(stack) > 0 {
		s := stack[len(stack)-1]
		stack = stack[:len(stack)-1]
		list := kidListOf(s.kids)
		if s.reached {
			c.counts[list] = c.count(s.kids)
			continue
		}
		if _, known := c.counts[list]; known {
			continue
		}
		c.counts[list] = uncounted
		stack = append(stack, step{kids: s.kids, reached: true})
		for _, k := range s.kids {
			if len(k.Kids) > 0 {
				stack = append(stack, step{kids: k.Kids})
			}
		}
	}
	return c.counts[kidListOf(root)]
}

// uncounted is the count of a list that is reached, until the lists below it are counted.
const uncounted = -1

// nodeCounter counts the nodes at and below lists of Kids, from the lowest lists on.
type nodeCounter struct {
	match   func(op int) bool
	counts  map[kidList]int
	endless map[kidList]bool
}

// count adds up the counts of the lists below kids. One that is uncounted then leads down to kids again: if there is
// a node to count on this way round, there is no end of them, and the count is the greatest number there is.
func (c *nodeCounter) count(kids []Doc) int {
	total := 0
	for _, k := range kids {
		if c.match(k.Op) {
			total = addCapped(total, 1)
		}
		if len(k.Kids) == 0 {
			continue
		}
		list := kidListOf(k.Kids)
		if c.counts[list] == uncounted {
			c.endless[list] = true
			continue
		}
		total = addCapped(total, c.counts[list])
	}
	if c.endless[kidListOf(kids)] && total > 0 {
		return math.MaxInt
	}
	return total
}

// addCapped adds two numbers that are not negative.
func addCapped(a int, b int) int {
	return a + min(b, math.MaxInt-a)
}

// FormatDoc returns the text of a document.
func FormatDoc(d Doc) string {
	if !DocValid(d) {
		return ""
	}
	var b strings.Builder
	writeDoc(&b, d)
	return b.String()
}

func writeDoc(b *strings.Builder, d Doc) {
	front, back := signsOf(d)
	b.WriteString(front)
	b.WriteString(d.Text)
	for _, k := range d.Kids {
		writeDoc(b, k)
	}
	b.WriteString(back)
}

// signsOf returns what the text of d has in front of its Text and Kids, and behind them.
func signsOf(d Doc) (string, string) {
	switch d.Op {
	case OpText:
		return `"`, `"`
	case OpLine:
		return "_", ""
	case OpBreak:
		return ".", ""
	case OpHard:
		return "!", ""
	case OpNest:
		return strconv.Itoa(d.N) + "<", ">"
	case OpCat:
		return "(", ")"
	case OpGroup:
		return "[", "]"
	}
	return "~", ""
}

// ParseDoc parses the text of a document.
func ParseDoc(text string) (Doc, bool) {
	r := docReader{rest: text}
	d, ok := r.doc(1)
	if !ok || r.rest != "" || !DocValid(d) {
		return Doc{}, false
	}
	return d, true
}

// docReader takes documents from the front of a text.
type docReader struct {
	rest string
}

// next takes a byte; at the end it returns 0, which no text of a document has.
func (r *docReader) next() byte {
	if r.rest == "" {
		return 0
	}
	c := r.rest[0]
	r.rest = r.rest[1:]
	return c
}

// doc takes a document, which is the node number depth on the way down. Its depth is checked here already, so that
// a long text does not lead to as many calls.
func (r *docReader) doc(depth int) (Doc, bool) {
	if depth > MaxDepth {
		return Doc{}, false
	}
	switch c := r.next(); c {
	case '~':
		return Doc{Op: OpEmpty}, true
	case '"':
		return r.text()
	case '_':
		return Doc{Op: OpLine}, true
	case '.':
		return Doc{Op: OpBreak}, true
	case '!':
		return Doc{Op: OpHard}, true
	case '0', '1', '2', '3', '4', '5', '6', '7', '8', '9':
		if r.next() != '<' {
			return Doc{}, false
		}
		return r.around(Doc{Op: OpNest, N: int(c - '0')}, 1, '>', depth)
	case '(':
		return r.around(Doc{Op: OpCat}, 2, ')', depth)
	case '[':
		return r.around(Doc{Op: OpGroup}, 1, ']', depth)
	}
	return Doc{}, false
}

// text takes an OpText whose first sign is taken. The Text is copied so that it does not keep all of a long text.
func (r *docReader) text() (Doc, bool) {
	text, rest, closed := strings.Cut(r.rest, `"`)
	if !closed || !TextValid(text) {
		return Doc{}, false
	}
	r.rest = rest
	return Doc{Op: OpText, Text: strings.Clone(text)}, true
}

// around takes the Kids of d, and the sign behind them.
func (r *docReader) around(d Doc, kids int, end byte, depth int) (Doc, bool) {
	d.Kids = make([]Doc, kids)
	for i := range d.Kids {
		k, ok := r.doc(depth + 1)
		if !ok {
			return Doc{}, false
		}
		d.Kids[i] = k
	}
	if r.next() != end {
		return Doc{}, false
	}
	return d, true
}

// CatDocs returns a document of two documents, one behind the other.
func CatDocs(a Doc, b Doc) (Doc, bool) {
	return validCopy(Doc{Op: OpCat, Kids: []Doc{a, b}})
}

// validCopy returns d in new memory; it returns false if d is not valid.
func validCopy(d Doc) (Doc, bool) {
	if !DocValid(d) {
		return Doc{}, false
	}
	return copyDoc(d), true
}

// copyDoc returns a valid document in new memory.
func copyDoc(d Doc) Doc {
	var kids []Doc
	for _, k := range d.Kids {
		kids = append(kids, copyDoc(k))
	}
	return Doc{Op: d.Op, N: d.N, Text: strings.Clone(d.Text), Kids: kids}
}

// CanFlatten reports whether a document has no newline that has to stay.
func CanFlatten(d Doc) bool {
	return DocValid(d) && CountOps(d, OpHard) == 0
}
