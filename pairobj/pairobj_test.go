package pairobj_test

import (
	"math"
	"slices"
	"strings"
	"testing"

	"foolscap/api"
	"foolscap/pair"
	"foolscap/pairobj"
	"foolscap/span"
)

// special texts have no lines; the lines of the chapter's examples; brackets in quotes, behind backslashes and beside bytes that only look like one; and pairs over many lines.
var special = [][]string{
	nil, {"f(a[b])"}, {"(ab)"}, {"f(a[b])", "{", "x", "}()"}, {"", "", ""}, {"(", ")", "(", ")"}, {"(a(b)", "{)c) ("},
	{`'(' \) (")") /*]*/ [`, "<a>", "]// }", "{"}, {"\xa8(\n\xa9", "\x00)", "", "\n)("}, {"(", "", "", ")"},
	{"{([", "", " x ", "", "])}", "}{"}, {")]}", "([{", "", "}])", "{[("}, {"f(a[1], {b: (c)})", "[(])(", "{(})"},
}

// opens are the opening brackets, and bytes that are none.
var opens = []byte("([{)]}<a\"\n\x00")

// counts are below, at and above those that the texts have pairs for.
var counts = []int{math.MinInt, -1, 0, 1, 2, 3, 4, api.End, api.End + 1, math.MaxInt}

func at(line, col int) api.Pos { return api.Pos{Line: line, Col: col} }

// short yields all texts of at most so many bytes, line breaks among them, over some bytes.
func short(bytes string, most int, yield func([]string) bool) bool {
	texts := []string{""}
	for i := 0; i < len(texts); i++ {
		if !yield(strings.Split(texts[i], "\n")) {
			return false
		}
		for _, c := range bytes {
			if len(texts[i]) < most {
				texts = append(texts, texts[i]+string(c))
			}
		}
	}
	return true
}

// all yields the special texts, short ones with one kind of brackets and line breaks, with two kinds, and with all three.
func all(yield func([]string) bool) {
	for _, lines := range special {
		if !yield(lines) {
			return
		}
	}
	if short("()a\n", 5, yield) && short("()\n", 7, yield) && short("[]()", 5, yield) {
		short("([{}])\n", 4, yield)
	}
}

// places gives every position in a text, and those beyond its edges.
func places(lines []string) []api.Pos {
	out := []api.Pos{at(math.MinInt, 0), at(-1, 0), at(len(lines), 0), at(math.MaxInt, 0), at(math.MaxInt, math.MinInt)}
	for i, line := range lines {
		for _, col := range []int{math.MinInt, -1, len(line) + 1, api.End, math.MaxInt} {
			out = append(out, at(i, col))
		}
		for col := range len(line) + 1 {
			out = append(out, at(i, col))
		}
	}
	return out
}

// answer is what a function of an object answers.
type answer struct {
	r  api.Range
	ok bool
}

func of(r api.Range, ok bool) answer { return answer{r, ok} }

// chars is the answer of a range of bytes.
func chars(line, col, toLine, toCol int) answer {
	return answer{api.Range{Kind: api.Char, From: at(line, col), To: at(toLine, toCol)}, true}
}

// couple is a pair of brackets.
type couple struct{ from, to api.Pos }

// pairs gives the pairs of a text whose opening bracket is open: an opening bracket matches the closing one that brings the level back to where it was.
func pairs(lines []string, open byte) []couple {
	i := strings.IndexByte("([{", open)
	if i < 0 {
		return nil
	}
	closing := ")]}"[i]
	type cell struct {
		p api.Pos
		c byte
	}
	var text []cell
	for i, line := range lines {
		for col := range len(line) {
			text = append(text, cell{at(i, col), line[col]})
		}
	}
	var out []couple
	for i, x := range text {
		if x.c != open {
			continue
		}
		level := 0
		for _, y := range text[i:] {
			switch y.c {
			case open:
				level++
			case closing:
				level--
			}
			if level == 0 {
				out = append(out, couple{x.p, y.p})
				break
			}
		}
	}
	return out
}

// model says the chapter's words of Inner and Around, given the pairs of the text.
func model(lines []string, p api.Pos, n int, known []couple) (inner, around answer) {
	if p.Line < 0 || p.Line >= len(lines) || p.Col < 0 || p.Col >= max(1, len(lines[p.Line])) {
		return
	}
	// The innermost pair is the one that begins last.
	for _, x := range slices.Backward(known) {
		if span.Less(p, x.from) || span.Less(x.to, p) {
			continue
		}
		if n--; n == 0 {
			inner = chars(x.from.Line, x.from.Col+1, x.to.Line, x.to.Col)
			around = chars(x.from.Line, x.from.Col, x.to.Line, x.to.Col+1)
			return
		}
	}
	return
}

// P17.1: Inner and Around.

func TestExamples(t *testing.T) {
	l := []string{"f(a[b])", "(ab)", "((a)b)", ") () ("}
	over := []string{"g{", "", " x(", ")", "  } {"}
	cross := []string{"[ (a{b", ")c]", "}"}
	for _, x := range []struct {
		name          string
		lines         []string
		p             api.Pos
		open          byte
		n             int
		inner, around answer
	}{
		{"the chapter's", l, at(0, 4), '(', 1, chars(0, 2, 0, 6), chars(0, 1, 0, 7)},
		{"the chapter's last", l, at(1, 1), '(', 1, chars(1, 1, 1, 3), chars(1, 0, 1, 4)},
		{"of another kind", l, at(0, 4), '[', 1, chars(0, 4, 0, 5), chars(0, 3, 0, 6)},
		{"from the opening bracket", l, at(0, 1), '(', 1, chars(0, 2, 0, 6), chars(0, 1, 0, 7)},
		{"from the closing bracket", l, at(0, 6), '(', 1, chars(0, 2, 0, 6), chars(0, 1, 0, 7)},
		{"from ahead of the pair", l, at(0, 0), '(', 1, answer{}, answer{}},
		{"a second one of one", l, at(0, 4), '(', 2, answer{}, answer{}},
		{"of a kind that is not there", l, at(0, 4), '{', 1, answer{}, answer{}},
		{"the inner one of two", l, at(2, 2), '(', 1, chars(2, 2, 2, 3), chars(2, 1, 2, 4)},
		{"the outer one of two", l, at(2, 2), '(', 2, chars(2, 1, 2, 5), chars(2, 0, 2, 6)},
		{"from behind the inner one", l, at(2, 4), '(', 1, chars(2, 1, 2, 5), chars(2, 0, 2, 6)},
		{"a third one of two", l, at(2, 2), '(', 3, answer{}, answer{}},
		{"the greatest count", l, at(2, 2), '(', math.MaxInt, answer{}, answer{}},

		// Nothing stands between the brackets: that is an empty range.
		{"empty", l, at(3, 2), '(', 1, chars(3, 3, 3, 3), chars(3, 2, 3, 4)},
		{"from brackets without partner, closing", l, at(3, 0), '(', 1, answer{}, answer{}},
		{"from brackets without partner, opening", l, at(3, 5), '(', 1, answer{}, answer{}},

		// An opening bracket at the end of its line: the range begins at the length of that line.
		{"over lines", over, at(2, 1), '{', 1, chars(0, 2, 4, 2), chars(0, 1, 4, 3)},
		{"from an empty line", over, at(1, 0), '{', 1, chars(0, 2, 4, 2), chars(0, 1, 4, 3)},
		{"empty over lines", over, at(3, 0), '(', 1, chars(2, 3, 3, 0), chars(2, 2, 3, 1)},
		{"an opening bracket that is never closed", over, at(4, 4), '{', 1, answer{}, answer{}},

		// Brackets of other kinds don't matter.
		{"round across others", cross, at(0, 5), '(', 1, chars(0, 3, 1, 0), chars(0, 2, 1, 1)},
		{"square across others", cross, at(0, 5), '[', 1, chars(0, 1, 1, 2), chars(0, 0, 1, 3)},
		{"curly across others", cross, at(1, 1), '{', 1, chars(0, 5, 2, 0), chars(0, 4, 2, 1)},

		{"a closing bracket", l, at(0, 4), ')', 1, answer{}, answer{}},
		{"no bracket", l, at(1, 1), 'a', 1, answer{}, answer{}},
		{"zero", []string{"\x00a\x00"}, at(0, 1), 0, 1, answer{}, answer{}},
		{"angles", []string{"<a>"}, at(0, 1), '<', 1, answer{}, answer{}},
		{"by 0", l, at(0, 4), '(', 0, answer{}, answer{}},
		{"by -1", l, at(0, 4), '(', -1, answer{}, answer{}},
		{"from the end of a line", l, at(0, 7), '(', 1, answer{}, answer{}},
		{"from the end of a line within the pair", over, at(0, 2), '{', 1, answer{}, answer{}},
		{"from behind an empty line", over, at(1, 1), '{', 1, answer{}, answer{}},
		{"from ahead of a line within the pair", over, at(2, -1), '{', 1, answer{}, answer{}},
		{"from below the text", l, at(4, 0), '(', 1, answer{}, answer{}},
		{"from above the text", l, at(-1, 0), '(', 1, answer{}, answer{}},
		{"in no lines", nil, at(0, 0), '(', 1, answer{}, answer{}},
	} {
		if got := of(pairobj.Inner(x.lines, x.p, x.open, x.n)); got != x.inner {
			t.Errorf("Inner, %s: %v, want %v", x.name, got, x.inner)
		}
		if got := of(pairobj.Around(x.lines, x.p, x.open, x.n)); got != x.around {
			t.Errorf("Around, %s: %v, want %v", x.name, got, x.around)
		}
	}
}

func TestObjects(t *testing.T) {
	for lines := range all {
		for _, open := range opens {
			known := pairs(lines, open)
			for _, p := range places(lines) {
				for _, n := range counts {
					inner, around := model(lines, p, n, known)
					if got := of(pairobj.Inner(lines, p, open, n)); got != inner {
						t.Fatalf("Inner(%q, %v, %q, %d): %v, want %v", lines, p, open, n, got, inner)
					}
					if got := of(pairobj.Around(lines, p, open, n)); got != around {
						t.Fatalf("Around(%q, %v, %q, %d): %v, want %v", lines, p, open, n, got, around)
					}
				}
			}
		}
	}
}

// At every byte of a text, an object is what pair.Enclosing has there; at the end of a line, which pair.Enclosing accepts, there is none.
func TestObjectsAreThePairsOfLayer11(t *testing.T) {
	ends := 0
	for _, lines := range special {
		for _, p := range places(lines) {
			for _, open := range opens {
				for _, n := range counts {
					from, to, ok := pair.Enclosing(lines, p, open, n)
					var inner, around answer
					if ok && p.Col > 0 && p.Col == len(lines[p.Line]) {
						ends++
					} else if ok {
						inner, around = chars(from.Line, from.Col+1, to.Line, to.Col), chars(from.Line, from.Col, to.Line, to.Col+1)
					}
					if got := of(pairobj.Inner(lines, p, open, n)); got != inner {
						t.Errorf("Inner(%q, %v, %q, %d): %v, want %v", lines, p, open, n, got, inner)
					}
					if got := of(pairobj.Around(lines, p, open, n)); got != around {
						t.Errorf("Around(%q, %v, %q, %d): %v, want %v", lines, p, open, n, got, around)
					}
				}
			}
		}
	}
	if ends == 0 {
		t.Error("no end of a line is in brackets")
	}
}

// Only three bytes have objects, whatever the text.
func TestObjectsOfAllBytes(t *testing.T) {
	for c := range 256 {
		b := string([]byte{byte(c)})
		lines := []string{b + "([{<a>}])" + b}
		var inner, around answer
		if i := strings.IndexByte("([{", byte(c)); i >= 0 {
			// The byte ahead of the text and the one behind it are brackets without partner.
			inner, around = chars(0, i+2, 0, 9-i), chars(0, i+1, 0, 10-i)
		}
		if got := of(pairobj.Inner(lines, at(0, 5), byte(c), 1)); got != inner {
			t.Errorf("Inner(%q) by %q: %v, want %v", lines, b, got, inner)
		}
		if got := of(pairobj.Around(lines, at(0, 5), byte(c), 1)); got != around {
			t.Errorf("Around(%q) by %q: %v, want %v", lines, b, got, around)
		}
	}
}

func TestManyBrackets(t *testing.T) {
	const depth = 4096
	deep := append(slices.Repeat([]string{"(", "["}, depth), slices.Repeat([]string{"])"}, depth)...)
	wide := []string{"(" + strings.Repeat("(){", 100000) + ")"}
	for i, x := range []struct{ got, want answer }{
		{of(pairobj.Inner(deep, at(2*depth, 0), '(', 1)), chars(2*depth-2, 1, 2*depth, 1)},
		{of(pairobj.Around(deep, at(2*depth, 0), '[', depth)), chars(1, 0, 3*depth-1, 1)},
		{of(pairobj.Inner(deep, at(2*depth, 0), '(', depth)), chars(0, 1, 3*depth-1, 1)},
		{of(pairobj.Around(deep, at(2*depth, 0), '(', depth)), chars(0, 0, 3*depth-1, 2)},
		{of(pairobj.Around(deep, at(2*depth, 0), '(', depth+1)), answer{}},
		{of(pairobj.Inner(wide, at(0, 3), '(', 1)), chars(0, 1, 0, 300001)},
		{of(pairobj.Around(wide, at(0, 3), '(', 1)), chars(0, 0, 0, 300002)},
		{of(pairobj.Inner(wide, at(0, 3), '(', 2)), answer{}},
		{of(pairobj.Inner(wide, at(0, 3), '{', 1)), answer{}},
	} {
		if x.got != x.want {
			t.Errorf("%d: %v, want %v", i, x.got, x.want)
		}
	}
}

func TestArgumentsAreLeftAlone(t *testing.T) {
	whole := []string{"(a [", "b", "])", "("}
	lines := whole[:2]
	for _, p := range places(lines) {
		for _, open := range opens {
			// The lines behind the last one are not the argument's.
			if r, ok := pairobj.Inner(lines, p, open, 1); ok {
				t.Errorf("Inner from %v by %q: %v", p, open, r)
			}
			if r, ok := pairobj.Around(lines, p, open, 1); ok {
				t.Errorf("Around from %v by %q: %v", p, open, r)
			}
		}
	}
	if !slices.Equal(whole, []string{"(a [", "b", "])", "("}) {
		t.Errorf("the arguments are now %q", whole)
	}
}

// P17.2: Around is Inner with both brackets.
func TestAroundIsInnerWithBothBrackets(t *testing.T) {
	closing := map[byte]string{'(': ")", '[': "]", '{': "}"}
	found := 0
	for lines := range all {
		for _, p := range places(lines) {
			for _, open := range opens {
				for n := range 3 {
					inner, around := of(pairobj.Inner(lines, p, open, n)), of(pairobj.Around(lines, p, open, n))
					if inner.ok != around.ok {
						t.Fatalf("(%q, %v, %q, %d): %v, %v", lines, p, open, n, inner, around)
					}
					if !inner.ok {
						continue
					}
					found++
					if !span.Valid(lines, inner.r) || !span.Valid(lines, around.r) {
						t.Fatalf("(%q, %v, %q, %d): %v, %v", lines, p, open, n, inner, around)
					}
					text := span.Text(lines, inner.r)
					text[0] = string([]byte{open}) + text[0]
					text[len(text)-1] += closing[open]
					if got := span.Text(lines, around.r); !slices.Equal(got, text) {
						t.Fatalf("(%q, %v, %q, %d): %q, want %q", lines, p, open, n, got, text)
					}
				}
			}
		}
	}
	if found == 0 {
		t.Error("nothing was found")
	}
}
