package paraobj_test

import (
	"fmt"
	"iter"
	"math"
	"slices"
	"strings"
	"testing"

	"foolscap/api"
	"foolscap/para"
	"foolscap/paraobj"
	"foolscap/span"
)

// special texts have no lines; the lines of the chapter's examples; lines of blanks, which are not empty; stops of all kinds; and bytes that only look like blanks or line breaks.
var special = [][]string{
	nil, {"a", "b", "", "", "c", "", "d"}, {"a", "", "b"}, {"A b.  C"}, {"A b.  C", "d.", "", "  e  "}, {"  a", "b. c"}, {"", "", ""},
	{"", "  ", "\t", "b", ""}, {" \t", "", "a", " ", "", "", "\t"}, {"A! \t?\t", "\t b?", "", "\t \t", "c.) d.\xa0e!\rf? g \t"},
	{"a.\x00", "\x00", "b.\r", "\v\f", "c\u00a0. \u0085", "\xff"}, {"a.", "", "", " ", "b. ", "c", "", "", ""}, {"a\n. b", "\n", "", "a.\n", "b"},
}

// counts are below, at and above those that the texts have blocks for.
var counts = []int{math.MinInt, math.MinInt + 1, -1, 0, 1, 2, 3, 4, 5, 6, 7, 8, 9, 10, 9999, api.End, api.End + 1, 1 << 62, 1<<62 + 1, math.MaxInt - 1, math.MaxInt}

func at(line, col int) api.Pos { return api.Pos{Line: line, Col: col} }

// short yields all texts of at most so many bytes, line breaks among them, over some bytes.
func short(bytes string, most int, yield func([]string) bool) bool {
	texts := []string{""}
	for i := 0; i < len(texts); i++ {
		if !yield(strings.Split(texts[i], "\n")) {
			return false
		}
		for _, c := range bytes {
			if len(texts[i]) < most {
				texts = append(texts, texts[i]+string(c))
			}
		}
	}
	return true
}

// all yields the special texts, the short ones with stops and blanks, and those with more lines.
func all(yield func([]string) bool) {
	for _, lines := range special {
		if !yield(lines) {
			return
		}
	}
	if short("a. \n", 6, yield) {
		short("a\n", 9, yield)
	}
}

// places gives every position in a text, and those beyond its edges.
func places(lines []string) []api.Pos {
	out := []api.Pos{at(math.MinInt, 0), at(-1, 0), at(len(lines), 0), at(math.MaxInt, 0), at(math.MaxInt, math.MinInt)}
	for i, line := range lines {
		for _, col := range []int{math.MinInt, -1, len(line) + 1, api.End, math.MaxInt} {
			out = append(out, at(i, col))
		}
		for col := range len(line) + 1 {
			out = append(out, at(i, col))
		}
	}
	return out
}

// inside tells whether p is the position of a byte of lines, or column 0 of an empty line.
func inside(lines []string, p api.Pos) bool {
	return p.Line >= 0 && p.Line < len(lines) && p.Col >= 0 && p.Col < max(1, len(lines[p.Line]))
}

// answer is what a function of an object answers.
type answer struct {
	r  api.Range
	ok bool
}

func of(r api.Range, ok bool) answer { return answer{r, ok} }

// rows is the answer of a range of whole lines, the last one among them.
func rows(from, to int) answer {
	return answer{api.Range{Kind: api.Line, From: at(from, 0), To: at(to, 0)}, true}
}

// chars is the answer of a range of bytes.
func chars(line, col, toLine, toCol int) answer {
	return answer{api.Range{Kind: api.Char, From: at(line, col), To: at(toLine, toCol)}, true}
}

// told writes what an iterator yields, and what it yields a second time if that is something else.
func told(seq iter.Seq2[int, int]) string {
	walk := func() string {
		var out []string
		for from, to := range seq {
			out = append(out, fmt.Sprintf("%d %d", from, to))
		}
		return strings.Join(out, ", ")
	}
	first, second := walk(), walk()
	if first != second {
		return first + ", and then " + second
	}
	return first
}

// alike tells whether so many adjacent lines are all empty or all not empty.
func alike(lines []string) bool {
	empty := 0
	for _, line := range lines {
		if len(line) == 0 {
			empty++
		}
	}
	return empty == 0 || empty == len(lines)
}

// blocks gives each sequence of lines that is a block and that no line beside it could join.
func blocks(lines []string) (out [][2]int) {
	for from := range lines {
		for to := from + 1; to <= len(lines); to++ {
			longer := from > 0 && alike(lines[from-1:to]) || to < len(lines) && alike(lines[from:to+1])
			if alike(lines[from:to]) && !longer {
				out = append(out, [2]int{from, to})
			}
		}
	}
	return out
}

// spread writes blocks like told.
func spread(known [][2]int) string {
	var out []string
	for _, b := range known {
		out = append(out, fmt.Sprintf("%d %d", b[0], b[1]))
	}
	return strings.Join(out, ", ")
}

// missing counts those of so many adjacent blocks from an index on that do not exist.
func missing(known [][2]int, index, many int) (out int) {
	for i := range many {
		if index+i < 0 || index+i >= len(known) {
			out++
		}
	}
	return out
}

// model says the chapter's words of Inner and Around, given the blocks of the text.
func model(lines []string, p api.Pos, n int, known [][2]int) (inner, around answer) {
	if !inside(lines, p) || n < 1 {
		return
	}
	// No text of these tests has as many blocks.
	n = min(n, 100)
	index := slices.IndexFunc(known, func(b [2]int) bool { return b[0] <= p.Line && p.Line < b[1] })
	if missing(known, index, n) == 0 {
		inner = rows(known[index][0], known[index+n-1][1]-1)
	}
	switch missed := missing(known, index, 2*n); {
	case missed == 0:
		around = rows(known[index][0], known[index+2*n-1][1]-1)
	case missed == 1 && len(lines[p.Line]) > 0 && index > 0:
		around = rows(known[index-1][0], known[len(known)-1][1]-1)
	}
	return
}

// sentence says the chapter's words of Sentence, given the beginnings of the text's sentences.
func sentence(lines []string, p api.Pos, around bool, starts []api.Pos) answer {
	if !inside(lines, p) {
		return answer{}
	}
	to := at(len(lines)-1, len(lines[len(lines)-1]))
	var from []api.Pos
	for _, q := range slices.Backward(starts) {
		if !span.Less(p, q) {
			from = []api.Pos{q}
			break
		}
		to = q
	}
	if from == nil {
		return answer{}
	}
	r := api.Range{Kind: api.Char, From: from[0], To: to}
	if around {
		if r.From == r.To {
			return answer{}
		}
		return answer{r, true}
	}
	// Take away what is no byte, or a blank one, from the end.
	text := span.Text(lines, r)
	for i, part := range slices.Backward(text) {
		if part = strings.TrimRight(part, " \t"); part == "" {
			continue
		}
		if i == 0 {
			return chars(r.From.Line, r.From.Col, r.From.Line, r.From.Col+len(part))
		}
		return chars(r.From.Line, r.From.Col, r.From.Line+i, len(part))
	}
	return answer{}
}

// P18.1: Blocks.

func TestBlocksExamples(t *testing.T) {
	for _, x := range []struct {
		lines []string
		want  string
	}{
		{[]string{"a", "", "b"}, "0 1, 1 2, 2 3"},
		{[]string{"a", "b", "", "", "c", "", "d"}, "0 2, 2 4, 4 5, 5 6, 6 7"},
		{[]string{"", "", "a", "b", ""}, "0 2, 2 4, 4 5"},
		{nil, ""},
		{[]string{}, ""},
		{[]string{""}, "0 1"},
		{[]string{"a"}, "0 1"},
		{[]string{"", ""}, "0 2"},
		// A line of blanks is not empty, nor is one of any other byte.
		{[]string{"a", " ", "\t", "b"}, "0 4"},
		{[]string{"", " ", ""}, "0 1, 1 2, 2 3"},
		{[]string{"\x00", "\n", "\xff"}, "0 3"},
	} {
		if got := told(paraobj.Blocks(x.lines)); got != x.want {
			t.Errorf("Blocks(%q): %q, want %q", x.lines, got, x.want)
		}
	}
}

func TestBlocks(t *testing.T) {
	for lines := range all {
		if got, want := told(paraobj.Blocks(lines)), spread(blocks(lines)); got != want {
			t.Fatalf("Blocks(%q): %q, want %q", lines, got, want)
		}
	}
}

func TestBlocksOfAllBytes(t *testing.T) {
	for c := range 256 {
		lines := []string{"", string([]byte{byte(c)}), ""}
		if got := told(paraobj.Blocks(lines)); got != "0 1, 1 2, 2 3" {
			t.Errorf("Blocks(%q): %q", lines, got)
		}
	}
}

func TestBlocksStopWithTheConsumer(t *testing.T) {
	lines := []string{"a", "b", "", "", "c", "", "d"}
	whole := strings.Split(told(paraobj.Blocks(lines)), ", ")
	for n := range len(whole) {
		var got []string
		// To yield again after the consumer stops would panic.
		for from, to := range paraobj.Blocks(lines) {
			got = append(got, fmt.Sprintf("%d %d", from, to))
			if len(got) == n+1 {
				break
			}
		}
		if !slices.Equal(got, whole[:n+1]) {
			t.Errorf("stopped at %d: %v, want %v", n+1, got, whole[:n+1])
		}
	}
}

func TestBlocksBeginAgain(t *testing.T) {
	seq := paraobj.Blocks([]string{"a", "", "b"})
	for range seq {
		break
	}
	var got []string
	for from, to := range seq {
		got = append(got, fmt.Sprintf("%d %d", from, to))
		// A walk within a walk has its own place.
		if inner := told(seq); inner != "0 1, 1 2, 2 3" {
			t.Errorf("within: %q", inner)
		}
	}
	if want := []string{"0 1", "1 2", "2 3"}; !slices.Equal(got, want) {
		t.Errorf("again: %v, want %v", got, want)
	}
}

// An iterator does not keep the lines that it was made of.
func TestBlocksKeepNoArguments(t *testing.T) {
	lines := []string{"a", "", "b"}
	seq := paraobj.Blocks(lines)
	for i := range lines {
		lines[i] = "x"
	}
	if got := told(seq); got != "0 1, 1 2, 2 3" {
		t.Errorf("after a change: %q", got)
	}
}

// P18.1: Inner and Around.

func TestBlockExamples(t *testing.T) {
	l := []string{"a", "b", "", "", "c", "", "d"}
	edged := []string{"", "aa", "", "bb", ""}
	for _, x := range []struct {
		name          string
		lines         []string
		p             api.Pos
		n             int
		inner, around answer
	}{
		{"from the first block", l, at(1, 0), 1, rows(0, 1), rows(0, 3)},
		{"from its first line", l, at(0, 0), 1, rows(0, 1), rows(0, 3)},
		{"by 2", l, at(1, 0), 2, rows(0, 3), rows(0, 5)},
		{"by 3", l, at(1, 0), 3, rows(0, 4), answer{}},
		{"by as many as there are", l, at(1, 0), 5, rows(0, 6), answer{}},
		{"by one more", l, at(1, 0), 6, answer{}, answer{}},
		{"from empty lines", l, at(2, 0), 1, rows(2, 3), rows(2, 4)},
		{"from empty lines by 2", l, at(3, 0), 2, rows(2, 4), rows(2, 6)},
		{"from empty lines by 3", l, at(3, 0), 3, rows(2, 5), answer{}},
		// The last of the blocks is missing: the one before the line takes its place.
		{"from the last block", l, at(6, 0), 1, rows(6, 6), rows(5, 6)},
		{"from the block before empty lines by 2", l, at(4, 0), 2, rows(4, 5), rows(2, 6)},
		// Two are missing, and three.
		{"from the last block by 2", l, at(6, 0), 2, answer{}, answer{}},
		{"from the block before empty lines by 3", l, at(4, 0), 3, rows(4, 6), answer{}},
		{"from empty lines, two blocks missing", l, at(5, 0), 2, rows(5, 6), answer{}},

		// The last of the blocks is missing, but the line is empty.
		{"from empty lines at the end", edged, at(4, 0), 1, rows(4, 4), answer{}},
		{"from empty lines, one block missing", edged, at(2, 0), 2, rows(2, 3), answer{}},
		{"behind empty lines", edged, at(1, 1), 1, rows(1, 1), rows(1, 2)},
		{"behind empty lines by 2", edged, at(1, 1), 2, rows(1, 2), rows(1, 4)},
		{"from empty lines at the beginning", edged, at(0, 0), 2, rows(0, 1), rows(0, 3)},
		{"from empty lines at the beginning by 3", edged, at(0, 0), 3, rows(0, 2), answer{}},

		// There is no block before the line.
		{"one block", []string{"a"}, at(0, 0), 1, rows(0, 0), answer{}},
		{"one block of empty lines", []string{"", ""}, at(1, 0), 1, rows(0, 1), answer{}},
		{"one missing of the whole text", []string{"a", "", "b"}, at(0, 0), 2, rows(0, 1), answer{}},
		{"one missing of the text from the first line", []string{"a", "", "b"}, at(0, 0), 3, rows(0, 2), answer{}},
		// A line of blanks is not empty.
		{"blanks", []string{"", " ", "a"}, at(1, 0), 1, rows(1, 2), rows(0, 2)},

		{"by 0", l, at(1, 0), 0, answer{}, answer{}},
		{"by -1", l, at(1, 0), -1, answer{}, answer{}},
		{"by the least count", l, at(6, 0), math.MinInt, answer{}, answer{}},
		{"by the greatest count", l, at(6, 0), math.MaxInt, answer{}, answer{}},
		// Twice this count would wrap around to 0, and twice the next one to 2.
		{"by 2^62", l, at(1, 0), 1 << 62, answer{}, answer{}},
		{"by 2^63 - 2^62 + 1", l, at(1, 0), math.MaxInt - 1<<62 + 2, answer{}, answer{}},
		{"from the end of a line", l, at(1, 1), 1, answer{}, answer{}},
		{"from behind an empty line", l, at(2, 1), 1, answer{}, answer{}},
		{"from ahead of a line", l, at(1, -1), 1, answer{}, answer{}},
		{"from below the text", l, at(7, 0), 1, answer{}, answer{}},
		{"from above the text", l, at(-1, 0), 1, answer{}, answer{}},
		{"in no lines", nil, at(0, 0), 1, answer{}, answer{}},
	} {
		if got := of(paraobj.Inner(x.lines, x.p, x.n)); got != x.inner {
			t.Errorf("Inner, %s: %v, want %v", x.name, got, x.inner)
		}
		if got := of(paraobj.Around(x.lines, x.p, x.n)); got != x.around {
			t.Errorf("Around, %s: %v, want %v", x.name, got, x.around)
		}
	}
}

func TestInnerAndAround(t *testing.T) {
	for lines := range all {
		known := blocks(lines)
		for _, p := range places(lines) {
			for _, n := range counts {
				inner, around := model(lines, p, n, known)
				if got := of(paraobj.Inner(lines, p, n)); got != inner {
					t.Fatalf("Inner(%q, %v, %d): %v, want %v", lines, p, n, got, inner)
				}
				if got := of(paraobj.Around(lines, p, n)); got != around {
					t.Fatalf("Around(%q, %v, %d): %v, want %v", lines, p, n, got, around)
				}
			}
		}
	}
}

// P18.2: Sentence.

func TestSentenceExamples(t *testing.T) {
	l := []string{"A b.  C", "d.", "", "  e  "}
	empty := []string{"a.", "", "", "  ", "\tb", ""}
	for _, x := range []struct {
		name          string
		lines         []string
		p             api.Pos
		inner, around answer
	}{
		{"the chapter's", []string{"A b.  C"}, at(0, 2), chars(0, 0, 0, 4), chars(0, 0, 0, 6)},
		{"from its beginning", l, at(0, 0), chars(0, 0, 0, 4), chars(0, 0, 0, 6)},
		{"from its stop", l, at(0, 3), chars(0, 0, 0, 4), chars(0, 0, 0, 6)},
		{"from the blanks behind it", l, at(0, 5), chars(0, 0, 0, 4), chars(0, 0, 0, 6)},
		{"to the end of the text", []string{"A b.  C"}, at(0, 6), chars(0, 6, 0, 7), chars(0, 6, 0, 7)},
		{"over lines", l, at(0, 6), chars(0, 6, 1, 2), chars(0, 6, 2, 0)},
		{"from a further line of it", l, at(1, 1), chars(0, 6, 1, 2), chars(0, 6, 2, 0)},
		{"to blanks at the end of the text", l, at(3, 2), chars(3, 2, 3, 3), chars(3, 2, 3, 5)},
		{"from blanks at the end of the text", l, at(3, 4), chars(3, 2, 3, 3), chars(3, 2, 3, 5)},
		{"to an end without a stop", []string{"a b", "c"}, at(0, 0), chars(0, 0, 1, 1), chars(0, 0, 1, 1)},
		{"to an empty last line", []string{"a b", ""}, at(0, 0), chars(0, 0, 0, 3), chars(0, 0, 1, 0)},

		// A sentence that begins at an empty line has blanks alone, or more.
		{"from an empty line", l, at(2, 0), answer{}, chars(2, 0, 3, 2)},
		{"from blanks behind it", l, at(3, 1), answer{}, chars(2, 0, 3, 2)},
		{"from an empty line ahead of blanks", empty, at(1, 0), chars(1, 0, 4, 2), chars(1, 0, 5, 0)},
		{"from an empty line behind an empty one", empty, at(2, 0), chars(1, 0, 4, 2), chars(1, 0, 5, 0)},
		{"from a line behind a line of blanks", empty, at(4, 1), chars(1, 0, 4, 2), chars(1, 0, 5, 0)},
		{"to the line below, all of it", []string{"a.", "b.", "c"}, at(1, 0), chars(1, 0, 1, 2), chars(1, 0, 2, 0)},
		{"to the first byte in the line below", []string{"a.", "\tb.", "c"}, at(0, 1), chars(0, 0, 0, 2), chars(0, 0, 1, 1)},

		{"empty, at the end", empty, at(5, 0), answer{}, answer{}},
		{"an empty text", []string{""}, at(0, 0), answer{}, answer{}},
		{"empty lines alone", []string{"", "", ""}, at(1, 0), answer{}, chars(0, 0, 2, 0)},
		{"ahead of the first sentence", []string{"  a"}, at(0, 1), answer{}, answer{}},
		{"at the first sentence", []string{"  a"}, at(0, 2), chars(0, 2, 0, 3), chars(0, 2, 0, 3)},
		{"no sentence", []string{" \t "}, at(0, 0), answer{}, answer{}},

		{"from the end of a line", l, at(0, 7), answer{}, answer{}},
		{"from the end of the text", l, at(3, 5), answer{}, answer{}},
		{"from behind an empty line", l, at(2, 1), answer{}, answer{}},
		{"from ahead of a line", l, at(1, -1), answer{}, answer{}},
		{"from below the text", l, at(4, 0), answer{}, answer{}},
		{"from above the text", l, at(-1, 0), answer{}, answer{}},
		{"in no lines", nil, at(0, 0), answer{}, answer{}},
	} {
		if got := of(paraobj.Sentence(x.lines, x.p, false)); got != x.inner {
			t.Errorf("Sentence, %s: %v, want %v", x.name, got, x.inner)
		}
		if got := of(paraobj.Sentence(x.lines, x.p, true)); got != x.around {
			t.Errorf("Sentence around, %s: %v, want %v", x.name, got, x.around)
		}
	}
}

func TestSentence(t *testing.T) {
	for lines := range all {
		starts := slices.Collect(para.Sentences(lines))
		for _, p := range places(lines) {
			for _, around := range []bool{false, true} {
				want := sentence(lines, p, around, starts)
				if got := of(paraobj.Sentence(lines, p, around)); got != want {
					t.Fatalf("Sentence(%q, %v, %t): %v, want %v", lines, p, around, got, want)
				}
			}
		}
	}
}

// Only the two blanks are cut off, and after every other byte the range ends.
func TestSentenceEndsOfAllBytes(t *testing.T) {
	for c := range 256 {
		lines := []string{"a" + string([]byte{byte(c)})}
		inner := chars(0, 0, 0, 2)
		if c == ' ' || c == '\t' {
			inner = chars(0, 0, 0, 1)
		}
		if got := of(paraobj.Sentence(lines, at(0, 0), false)); got != inner {
			t.Errorf("Sentence(%q): %v, want %v", lines, got, inner)
		}
		if got, want := of(paraobj.Sentence(lines, at(0, 1), true)), chars(0, 0, 0, 2); got != want {
			t.Errorf("Sentence(%q) around: %v, want %v", lines, got, want)
		}
	}
}

// P18.1 and P18.2, of the rules that hold everywhere.

func TestLargeTexts(t *testing.T) {
	const many = 50000
	mixed := slices.Repeat([]string{"a. b", "c ", ""}, many)
	plain := slices.Repeat([]string{"a"}, many)
	for i, x := range []struct{ got, want answer }{
		{of(paraobj.Inner(mixed, at(3*many-1, 0), 1)), rows(3*many-1, 3*many-1)},
		{of(paraobj.Inner(mixed, at(0, 0), 2*many)), rows(0, 3*many-1)},
		{of(paraobj.Inner(mixed, at(0, 0), 2*many+1)), answer{}},
		{of(paraobj.Around(mixed, at(1, 0), many)), rows(0, 3*many-1)},
		{of(paraobj.Around(mixed, at(4, 0), many)), answer{}},
		{of(paraobj.Around(mixed, at(4, 0), many-1)), rows(3, 3*many-1)},
		{of(paraobj.Around(mixed[1:3*many-1], at(3, 0), many-1)), rows(1, 3*many-3)},
		{of(paraobj.Inner(plain, at(many-1, 0), 1)), rows(0, many-1)},
		{of(paraobj.Sentence(mixed, at(3*many-2, 0), false)), chars(3*many-3, 3, 3*many-2, 1)},
		{of(paraobj.Sentence(mixed, at(3*many-2, 0), true)), chars(3*many-3, 3, 3*many-1, 0)},
		{of(paraobj.Sentence(plain, at(many/2, 0), true)), chars(0, 0, many-1, 1)},
	} {
		if x.got != x.want {
			t.Errorf("%d: %v, want %v", i, x.got, x.want)
		}
	}
}

func TestArgumentsAreLeftAlone(t *testing.T) {
	whole := []string{"a", "", "b  ", "c. d", ""}
	// The lines behind the last one are not the argument's.
	lines := whole[:3]
	for i, x := range []struct{ got, want answer }{
		{of(paraobj.Inner(lines, at(2, 0), 1)), rows(2, 2)},
		{of(paraobj.Inner(lines, at(2, 0), 2)), answer{}},
		{of(paraobj.Around(lines, at(2, 0), 1)), rows(1, 2)},
		{of(paraobj.Sentence(lines, at(2, 0), false)), chars(2, 0, 2, 1)},
		{of(paraobj.Sentence(lines, at(2, 0), true)), chars(2, 0, 2, 3)},
	} {
		if x.got != x.want {
			t.Errorf("%d: %v, want %v", i, x.got, x.want)
		}
	}
	if got := told(paraobj.Blocks(lines)); got != "0 1, 1 2, 2 3" {
		t.Errorf("Blocks: %q", got)
	}
	if !slices.Equal(whole, []string{"a", "", "b  ", "c. d", ""}) {
		t.Errorf("the arguments are now %q", whole)
	}
}

// P18.3: The blocks of a text together are the text.
func TestBlocksTogetherAreTheText(t *testing.T) {
	for lines := range all {
		var text []string
		end := 0
		for from, to := range paraobj.Blocks(lines) {
			if from != end || to <= from || to > len(lines) {
				t.Fatalf("Blocks(%q): %d %d behind %d", lines, from, to, end)
			}
			text, end = append(text, lines[from:to]...), to
			for i := from; i < to; i++ {
				// Every line is in its block as an object.
				if got, want := of(paraobj.Inner(lines, at(i, 0), 1)), rows(from, to-1); got != want {
					t.Fatalf("Inner(%q) from line %d: %v, want %v", lines, i, got, want)
				}
			}
		}
		if !slices.Equal(text, lines) {
			t.Fatalf("Blocks(%q): %q", lines, text)
		}
	}
}
