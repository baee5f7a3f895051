package pair_test

import (
	"math"
	"slices"
	"strings"
	"testing"

	"foolscap/api"
	"foolscap/pair"
	"foolscap/span"
)

// special texts have no lines; the lines of the chapter's examples; brackets in quotes, behind backslashes and beside bytes that only look like one; and pairs over many lines.
var special = [][]string{
	nil, {"x (a[b)c]"}, {"(a(b)", "{)c) ("}, {"(a(b))"}, {"", "", ""}, {"(", ")", "(", ")"},
	{`'(' \) (")") /*]*/ [`, "<a>", "]// }", "{"}, {"\xa8(\n\xa9", "\x00)", "", "\n)("},
	{"{([", "", " x ", "", "])}", "}{"}, {")]}", "([{", "", "}])", "{[("}, {"f(a[1], {b: (c)})", "[(])(", "{(})"},
}

// counts are below, at and above those that the texts have pairs for.
var counts = []int{math.MinInt, -1, 0, 1, 2, 3, 4, 5, api.End, api.End + 1, 1 << 62, math.MaxInt}

func at(line, col int) api.Pos { return api.Pos{Line: line, Col: col} }

// short yields all texts of at most so many bytes, line breaks among them, over some bytes.
func short(bytes string, most int, yield func([]string) bool) bool {
	texts := []string{""}
	for i := 0; i < len(texts); i++ {
		if !yield(strings.Split(texts[i], "\n")) {
			return false
		}
		for _, c := range bytes {
			if len(texts[i]) < most {
				texts = append(texts, texts[i]+string(c))
			}
		}
	}
	return true
}

// all yields the special texts, short ones with one kind of brackets and line breaks, with two kinds, and with all three.
func all(yield func([]string) bool) {
	for _, lines := range special {
		if !yield(lines) {
			return
		}
	}
	if short("()a\n", 5, yield) && short("()\n", 7, yield) && short("[]()", 5, yield) {
		short("([{}])\n", 4, yield)
	}
}

// around gives every position in a text, and those beyond its edges.
func around(lines []string) []api.Pos {
	out := []api.Pos{at(math.MinInt, 0), at(math.MaxInt, 0), at(-1, 0), at(len(lines), 0), at(len(lines)+1, 0)}
	for i, line := range lines {
		for _, col := range []int{math.MinInt, -1, len(line) + 1, api.End, math.MaxInt} {
			out = append(out, at(i, col))
		}
		for col := range len(line) + 1 {
			out = append(out, at(i, col))
		}
	}
	return out
}

// isPosition tells whether p is a position of lines, by the words of chapter 7.
func isPosition(lines []string, p api.Pos) bool {
	return p.Line >= 0 && p.Line < len(lines) && p.Col >= 0 && p.Col <= len(lines[p.Line])
}

// answer is what Match answers.
type answer struct {
	move api.Move
	ok   bool
}

func of(m api.Move, ok bool) answer { return answer{m, ok} }

// to is the answer of a motion that does not fail.
func to(line, col int) answer {
	return answer{api.Move{To: at(line, col), Way: api.Inclusive, Jump: true, Want: -1}, true}
}

// couple is what Enclosing answers.
type couple struct {
	from, to api.Pos
	ok       bool
}

func both(from, to api.Pos, ok bool) couple { return couple{from, to, ok} }

// cell is a byte and its place.
type cell struct {
	p api.Pos
	c byte
}

// cells gives all bytes of a text.
func cells(lines []string) []cell {
	var out []cell
	for i, line := range lines {
		for col := range len(line) {
			out = append(out, cell{at(i, col), line[col]})
		}
	}
	return out
}

// closer gives the closing bracket of an opening one's kind, or 0 for other bytes.
func closer(c byte) byte {
	const kinds = "()[]{}"
	if i := strings.IndexByte(kinds, c); i >= 0 && i%2 == 0 {
		return kinds[i+1]
	}
	return 0
}

// level tells whether between two brackets there are as many opening as closing ones, and never more closing than opening ones from the left.
func level(between []cell, opening, closing byte) bool {
	sum := 0
	for _, x := range between {
		switch x.c {
		case opening:
			sum++
		case closing:
			sum--
		}
		if sum < 0 {
			return false
		}
	}
	return sum == 0
}

// partners gives, for each bracket of a text that has one, the place of its partner, by the words of the chapter.
func partners(lines []string) map[api.Pos]api.Pos {
	out := map[api.Pos]api.Pos{}
	text := cells(lines)
	for i, x := range text {
		closing := closer(x.c)
		if closing == 0 {
			continue
		}
		for j := i + 1; j < len(text); j++ {
			if text[j].c == closing && level(text[i+1:j], x.c, closing) {
				out[x.p], out[text[j].p] = text[j].p, x.p
				break
			}
		}
	}
	return out
}

// P11.1: Kind.

func TestKind(t *testing.T) {
	for i := range 256 {
		c := byte(i)
		var opening, closing byte
		var opens, ok bool
		for _, kind := range []string{"()", "[]", "{}"} {
			if strings.IndexByte(kind, c) >= 0 {
				opening, closing, opens, ok = kind[0], kind[1], c == kind[0], true
			}
		}
		a, b, first, is := pair.Kind(c)
		if a != opening || b != closing || first != opens || is != ok {
			t.Errorf("Kind(%q): %q, %q, %t, %t", c, a, b, first, is)
		}
	}
}

// P11.1: Match.

func TestMatchExamples(t *testing.T) {
	l := []string{"x (a[b)c]"}
	over := []string{"f(a", "", "  (b)", "c) {"}
	odd := []string{")(", "(]", "[) x", "} {"}
	for _, x := range []struct {
		name      string
		got, want answer
	}{
		{"from ahead of a bracket", of(pair.Match(l, at(0, 0))), to(0, 6)},
		{"from it", of(pair.Match(l, at(0, 2))), to(0, 6)},
		// Brackets of other kinds are ignored.
		{"over another kind", of(pair.Match(l, at(0, 4))), to(0, 8)},
		{"back", of(pair.Match(l, at(0, 6))), to(0, 2)},
		{"back over another kind", of(pair.Match(l, at(0, 8))), to(0, 4)},
		{"from a byte between brackets", of(pair.Match(l, at(0, 3))), to(0, 8)},
		{"from behind the last bracket", of(pair.Match(l, at(0, 9))), answer{}},

		{"over lines", of(pair.Match(over, at(0, 0))), to(3, 1)},
		{"back over lines", of(pair.Match(over, at(3, 0))), to(0, 1)},
		{"within a pair", of(pair.Match(over, at(2, 0))), to(2, 4)},
		// The first bracket is sought in the line of p only, the matching one in all of them.
		{"from a line's end behind its bracket", of(pair.Match(over, at(0, 2))), answer{}},
		{"from an empty line", of(pair.Match(over, at(1, 0))), answer{}},
		{"from a bracket that is never closed", of(pair.Match(over, at(3, 2))), answer{}},
		{"from an end of a line", of(pair.Match(over, at(3, 4))), answer{}},

		// The first bracket counts, also where one behind it has a partner.
		{"from a closing bracket without partner", of(pair.Match(odd, at(0, 0))), answer{}},
		{"from an opening bracket without partner", of(pair.Match(odd, at(0, 1))), answer{}},
		{"from the nearest one to the closing one", of(pair.Match(odd, at(1, 0))), to(2, 1)},
		{"from one whose line goes on", of(pair.Match([]string{"}()"}, at(0, 0))), answer{}},
		{"from behind that", of(pair.Match([]string{"}()"}, at(0, 1))), to(0, 2)},
		{"the wrong way round", of(pair.Match(odd, at(3, 0))), answer{}},
		{"from one of another kind to it", of(pair.Match(odd, at(1, 1))), answer{}},
		{"adjacent", of(pair.Match([]string{"()"}, at(0, 0))), to(0, 1)},
		{"two pairs", of(pair.Match([]string{"()()"}, at(0, 0))), to(0, 1)},
		{"the second of two pairs", of(pair.Match([]string{"()()"}, at(0, 3))), to(0, 2)},
		{"in quotes", of(pair.Match([]string{`("(")`}, at(0, 0))), answer{}},
		{"angles", of(pair.Match([]string{"<a>"}, at(0, 0))), answer{}},

		{"from behind the length", of(pair.Match(l, at(0, 10))), answer{}},
		{"from ahead of the line", of(pair.Match(l, at(0, -1))), answer{}},
		{"from below the text", of(pair.Match(l, at(1, 0))), answer{}},
		{"from above the text", of(pair.Match(l, at(-1, 0))), answer{}},
		{"in no lines", of(pair.Match(nil, at(0, 0))), answer{}},
		{"in an empty line", of(pair.Match([]string{""}, at(0, 0))), answer{}},
	} {
		if x.got != x.want {
			t.Errorf("%s: %v, want %v", x.name, x.got, x.want)
		}
	}
}

// matched answers with the partner of the first bracket of the line at p or after it.
func matched(lines []string, p api.Pos, known map[api.Pos]api.Pos) answer {
	if !isPosition(lines, p) {
		return answer{}
	}
	i := strings.IndexAny(lines[p.Line][p.Col:], "()[]{}")
	if i < 0 {
		return answer{}
	}
	q, ok := known[at(p.Line, p.Col+i)]
	if !ok {
		return answer{}
	}
	return to(q.Line, q.Col)
}

func TestMatch(t *testing.T) {
	for lines := range all {
		known := partners(lines)
		for _, p := range around(lines) {
			if got, want := of(pair.Match(lines, p)), matched(lines, p, known); got != want {
				t.Fatalf("Match(%q, %v): %v, want %v", lines, p, got, want)
			}
		}
	}
}

// Every byte stands between the brackets of a pair, ahead of one, and behind one.
func TestMatchOfAllBytes(t *testing.T) {
	for c := range 256 {
		for _, kind := range []string{"()", "[]", "{}"} {
			lines := []string{kind[:1] + string([]byte{byte(c)}) + kind[1:], string([]byte{byte(c)}) + kind, kind + string([]byte{byte(c)})}
			known := partners(lines)
			for _, p := range around(lines) {
				if got, want := of(pair.Match(lines, p)), matched(lines, p, known); got != want {
					t.Fatalf("Match(%q, %v): %v, want %v", lines, p, got, want)
				}
			}
		}
	}
}

// P11.2: Enclosing.

func TestEnclosingExamples(t *testing.T) {
	l := []string{"(a(b)", "{)c) ("}
	inner, outer := couple{at(0, 2), at(0, 4), true}, couple{at(0, 0), at(1, 1), true}
	nested, kinds := []string{"(a(b))"}, []string{"[ (a{b", ")c]", "}"}
	for _, x := range []struct {
		name      string
		got, want couple
	}{
		{"innermost", both(pair.Enclosing(l, at(0, 3), '(', 1)), inner},
		{"from the opening bracket", both(pair.Enclosing(l, at(0, 2), '(', 1)), inner},
		{"from the closing bracket", both(pair.Enclosing(l, at(0, 4), '(', 1)), inner},
		{"from ahead of the inner pair", both(pair.Enclosing(l, at(0, 1), '(', 1)), outer},
		{"from behind the line", both(pair.Enclosing(l, at(0, 5), '(', 1)), outer},
		{"from the outer opening bracket", both(pair.Enclosing(l, at(0, 0), '(', 1)), outer},
		{"from the outer closing bracket", both(pair.Enclosing(l, at(1, 1), '(', 1)), outer},
		{"second", both(pair.Enclosing(l, at(0, 3), '(', 2)), outer},
		{"second of one", both(pair.Enclosing(l, at(0, 1), '(', 2)), couple{}},
		{"third of two", both(pair.Enclosing(l, at(0, 3), '(', 3)), couple{}},
		{"from behind all pairs", both(pair.Enclosing(l, at(1, 2), '(', 1)), couple{}},
		{"from a closing bracket without partner", both(pair.Enclosing(l, at(1, 3), '(', 1)), couple{}},
		{"from an opening bracket without partner", both(pair.Enclosing(l, at(1, 5), '(', 1)), couple{}},
		{"never closed", both(pair.Enclosing(l, at(1, 0), '{', 1)), couple{}},

		{"the chapter's last example", both(pair.Enclosing(nested, at(0, 3), '(', 1)), couple{at(0, 2), at(0, 4), true}},
		{"the chapter's last example, second", both(pair.Enclosing(nested, at(0, 3), '(', 2)), couple{at(0, 0), at(0, 5), true}},
		{"an unclosed bracket is no pair", both(pair.Enclosing([]string{"((a)"}, at(0, 2), '(', 2)), couple{}},

		// Pairs of several kinds that cross each other.
		{"round", both(pair.Enclosing(kinds, at(0, 5), '(', 1)), couple{at(0, 2), at(1, 0), true}},
		{"square", both(pair.Enclosing(kinds, at(0, 5), '[', 1)), couple{at(0, 0), at(1, 2), true}},
		{"curly", both(pair.Enclosing(kinds, at(1, 1), '{', 1)), couple{at(0, 4), at(2, 0), true}},
		{"curly, not round", both(pair.Enclosing(kinds, at(1, 1), '(', 1)), couple{}},

		{"a closing bracket", both(pair.Enclosing(l, at(0, 3), ')', 1)), couple{}},
		{"no bracket", both(pair.Enclosing(l, at(0, 3), 'a', 1)), couple{}},
		{"zero", both(pair.Enclosing([]string{"\x00a\x00"}, at(0, 1), 0, 1)), couple{}},
		{"angles", both(pair.Enclosing([]string{"<a>"}, at(0, 1), '<', 1)), couple{}},
		{"by 0", both(pair.Enclosing(l, at(0, 3), '(', 0)), couple{}},
		{"by -1", both(pair.Enclosing(l, at(0, 3), '(', -1)), couple{}},
		{"from behind the length", both(pair.Enclosing(l, at(0, 6), '(', 1)), couple{}},
		{"from ahead of a line", both(pair.Enclosing(l, at(1, -1), '(', 1)), couple{}},
		{"from below the text", both(pair.Enclosing([]string{"(", ")"}, at(2, 0), '(', 1)), couple{}},
		{"in no lines", both(pair.Enclosing(nil, at(0, 0), '(', 1)), couple{}},
	} {
		if x.got != x.want {
			t.Errorf("%s: %v, want %v", x.name, x.got, x.want)
		}
	}
}

// enclosing gives the pairs that enclose p, the innermost one, which begins last, first.
func enclosing(lines []string, p api.Pos, open byte, known map[api.Pos]api.Pos) []couple {
	var out []couple
	if closer(open) == 0 || !isPosition(lines, p) {
		return nil
	}
	for _, x := range cells(lines) {
		end, ok := known[x.p]
		if x.c == open && ok && !span.Less(p, x.p) && !span.Less(end, p) {
			out = append(out, couple{x.p, end, true})
		}
	}
	slices.Reverse(out)
	return out
}

func TestEnclosing(t *testing.T) {
	for lines := range all {
		known := partners(lines)
		for _, p := range around(lines) {
			for _, open := range []byte("([{)]}<a\x00") {
				found := enclosing(lines, p, open, known)
				for _, n := range counts {
					var want couple
					if n >= 1 && n <= len(found) {
						want = found[n-1]
					}
					if got := both(pair.Enclosing(lines, p, open, n)); got != want {
						t.Fatalf("Enclosing(%q, %v, %q, %d): %v, want %v", lines, p, open, n, got, want)
					}
				}
			}
		}
	}
}

// Only three bytes have pairs, whatever the text.
func TestEnclosingOfAllBytes(t *testing.T) {
	lines := []string{"([{<a>}])", "\x00 \x00"}
	for c := range 256 {
		var want couple
		if i := strings.IndexByte("([{", byte(c)); i >= 0 {
			want = couple{at(0, i), at(0, 8-i), true}
		}
		if got := both(pair.Enclosing(lines, at(0, 4), byte(c), 1)); got != want {
			t.Errorf("Enclosing by %q: %v, want %v", byte(c), got, want)
		}
		if got := both(pair.Enclosing(lines, at(1, 1), byte(c), 1)); got != (couple{}) {
			t.Errorf("Enclosing by %q, behind the pairs: %v", byte(c), got)
		}
	}
}

// P11.1 and P11.2 where many brackets stand in one another, and beside one another.

func TestManyBrackets(t *testing.T) {
	const depth = 4096
	deep := append(slices.Repeat([]string{"(", "["}, depth), slices.Repeat([]string{"])"}, depth)...)
	wide := []string{"(" + strings.Repeat("(){", 100000) + ")"}
	for i, x := range []struct{ got, want answer }{
		{of(pair.Match(deep, at(0, 0))), to(3*depth-1, 1)},
		{of(pair.Match(deep, at(3*depth-1, 1))), to(0, 0)},
		{of(pair.Match(deep, at(2*depth-1, 0))), to(2*depth, 0)},
		{of(pair.Match(wide, at(0, 0))), to(0, 300001)},
		{of(pair.Match(wide, at(0, 300001))), to(0, 0)},
		{of(pair.Match(wide, at(0, 3))), answer{}},
	} {
		if x.got != x.want {
			t.Errorf("Match %d: %v, want %v", i, x.got, x.want)
		}
	}
	for i, x := range []struct{ got, want couple }{
		{both(pair.Enclosing(deep, at(2*depth, 0), '(', 1)), couple{at(2*depth-2, 0), at(2*depth, 1), true}},
		{both(pair.Enclosing(deep, at(2*depth, 0), '[', depth)), couple{at(1, 0), at(3*depth-1, 0), true}},
		{both(pair.Enclosing(deep, at(2*depth, 0), '(', depth)), couple{at(0, 0), at(3*depth-1, 1), true}},
		{both(pair.Enclosing(deep, at(2*depth, 0), '(', depth+1)), couple{}},
		{both(pair.Enclosing(wide, at(0, 3), '(', 1)), couple{at(0, 0), at(0, 300001), true}},
		{both(pair.Enclosing(wide, at(0, 3), '(', 2)), couple{}},
		{both(pair.Enclosing(wide, at(0, 3), '{', 1)), couple{}},
	} {
		if x.got != x.want {
			t.Errorf("Enclosing %d: %v, want %v", i, x.got, x.want)
		}
	}
}

func TestArgumentsAreLeftAlone(t *testing.T) {
	whole := []string{"(a [", "b", "])", "("}
	lines := whole[:2]
	for _, p := range around(lines) {
		// The lines behind the last one are not the argument's.
		if m, ok := pair.Match(lines, p); ok {
			t.Errorf("Match leads to %v from %v", m.To, p)
		}
		for _, open := range []byte("([{") {
			if a, b, ok := pair.Enclosing(lines, p, open, 1); ok {
				t.Errorf("%v and %v enclose %v", a, b, p)
			}
		}
	}
	if !slices.Equal(whole, []string{"(a [", "b", "])", "("}) {
		t.Errorf("the arguments are now %q", whole)
	}
}

// P11.3: Match leads from a bracket to its partner and back.
func TestMatchLeadsBack(t *testing.T) {
	for lines := range all {
		known := partners(lines)
		for _, x := range cells(lines) {
			opening, closing, opens, ok := pair.Kind(x.c)
			if !ok {
				continue
			}
			there, ok := pair.Match(lines, x.p)
			if _, has := known[x.p]; ok != has {
				t.Fatalf("Match(%q, %v): %v, %t", lines, x.p, there, ok)
			}
			if !ok {
				continue
			}
			other := lines[there.To.Line][there.To.Col]
			if opens && (other != closing || !span.Less(x.p, there.To)) || !opens && (other != opening || !span.Less(there.To, x.p)) {
				t.Fatalf("Match(%q, %v): %v", lines, x.p, there)
			}
			if back, ok := pair.Match(lines, there.To); !ok || back.To != x.p {
				t.Fatalf("Match(%q, %v): %v, %t, and there from %v", lines, there.To, back, ok, x.p)
			}
		}
	}
}
