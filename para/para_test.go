package para_test

import (
	"fmt"
	"iter"
	"math"
	"regexp"
	"slices"
	"strings"
	"testing"

	"foolscap/api"
	"foolscap/para"
	"foolscap/span"
)

// special texts have no lines; the lines of the chapter's examples; stops of all kinds and bytes that only look like one; and blanks of both kinds.
var special = [][]string{
	nil, {"a", "b", "", "", "c", "", "de"}, {"A. B", "c. D"}, {"A. B", ""}, {"A.", "  ", "b"}, {"A! \t?\t", "\t b?", "", "\t \t", "c.) d.\xa0e!\rf? g"},
	{"", "", " .", "! ? .", "\xff", "", ""}, {".\t", "\tb", "c!", " \t", "\td", "", " ", "e"}, {"a\n. b", "\n", "", "a.\n", "b"}, {"", "ab", "cd. e", "", "", "f"},
}

// counts are below, at and above those that the texts have paragraphs and sentences for.
var counts = []int{math.MinInt, -1, 0, 1, 2, 3, 4, 5, 6, 7, 9999, api.End, api.End + 1, 1 << 62, math.MaxInt}

func at(line, col int) api.Pos { return api.Pos{Line: line, Col: col} }

// short yields all texts of at most so many bytes, line breaks among them, over some bytes.
func short(bytes string, most int, yield func([]string) bool) bool {
	texts := []string{""}
	for i := 0; i < len(texts); i++ {
		if !yield(strings.Split(texts[i], "\n")) {
			return false
		}
		for _, c := range bytes {
			if len(texts[i]) < most {
				texts = append(texts, texts[i]+string(c))
			}
		}
	}
	return true
}

// all yields the special texts, the short ones with stops and blanks, and those with more lines.
func all(yield func([]string) bool) {
	for _, lines := range special {
		if !yield(lines) {
			return
		}
	}
	if short("a. \n", 6, yield) {
		short("a\n", 9, yield)
	}
}

// around gives every position in a text, and those beyond its edges.
func around(lines []string) []api.Pos {
	out := []api.Pos{at(math.MinInt, 0), at(math.MaxInt, 0), at(-1, 0), at(len(lines), 0), at(len(lines)+1, 0)}
	for i, line := range lines {
		for _, col := range []int{math.MinInt, -1, len(line) + 1, api.End, math.MaxInt} {
			out = append(out, at(i, col))
		}
		for col := range len(line) + 1 {
			out = append(out, at(i, col))
		}
	}
	return out
}

// isPosition tells whether p is a position of lines, by the words of chapter 7.
func isPosition(lines []string, p api.Pos) bool {
	return p.Line >= 0 && p.Line < len(lines) && p.Col >= 0 && p.Col <= len(lines[p.Line])
}

// answer is what a motion answers.
type answer struct {
	move api.Move
	ok   bool
}

func of(m api.Move, ok bool) answer { return answer{m, ok} }

// to is the answer of a motion that does not fail.
func to(line, col int) answer {
	return answer{api.Move{To: at(line, col), Way: api.Exclusive, Jump: true, Want: -1}, true}
}

// each calls f for all positions in and around the texts and all counts, with the beginnings of sentences; fails tells that p is no position, or n no count.
func each(f func(lines []string, p api.Pos, n int, starts []api.Pos, fails bool)) {
	for lines := range all {
		starts := model(lines)
		for _, p := range around(lines) {
			for _, n := range counts {
				f(lines, p, n, starts, n < 1 || !isPosition(lines, p))
			}
		}
	}
}

// P10.1: Next and Back.

func TestParagraphsExamples(t *testing.T) {
	l := []string{"a", "b", "", "", "c", "", "de"}
	full, empty := []string{"", "ab", "", "cd", ""}, []string{"", "", ""}
	for _, x := range []struct {
		name      string
		got, want answer
	}{
		{"Next by 2", of(para.Next(l, at(0, 0), 2, false)), to(5, 0)},
		{"Next", of(para.Next(l, at(0, 0), 1, false)), to(2, 0)},
		{"Next from the line ahead of an empty one", of(para.Next(l, at(1, 1), 1, false)), to(2, 0)},
		// An empty line that follows an empty one ends no paragraph.
		{"Next from the first of two empty lines", of(para.Next(l, at(2, 0), 1, false)), to(5, 0)},
		{"Next from the second one", of(para.Next(l, at(3, 0), 1, true)), to(5, 0)},
		// Behind the last paragraph that ends at an empty line.
		{"Next to the last byte", of(para.Next(l, at(5, 0), 1, false)), to(6, 1)},
		{"Next to the end", of(para.Next(l, at(5, 0), 1, true)), to(6, 2)},
		{"Next by 3", of(para.Next(l, at(0, 0), 3, false)), to(6, 1)},
		{"Next by 4", of(para.Next(l, at(0, 0), 4, false)), answer{}},
		{"Next by 3, op", of(para.Next(l, at(0, 0), 3, true)), to(6, 2)},
		{"Next by 4, op", of(para.Next(l, at(0, 0), 4, true)), answer{}},
		{"Next within the last line", of(para.Next(l, at(6, 0), 1, false)), to(6, 1)},
		{"Next from the last byte", of(para.Next(l, at(6, 1), 1, false)), answer{}},
		{"Next from the last byte, op", of(para.Next(l, at(6, 1), 1, true)), to(6, 2)},
		{"Next from the end", of(para.Next(l, at(6, 2), 1, false)), answer{}},
		{"Next from the end, op", of(para.Next(l, at(6, 2), 1, true)), answer{}},
		// A last line that is empty.
		{"Next to an empty last line", of(para.Next(full, at(2, 0), 1, true)), to(4, 0)},
		{"Next beyond it", of(para.Next(full, at(2, 0), 2, true)), answer{}},
		{"Next among empty lines", of(para.Next(empty, at(0, 0), 1, false)), to(2, 0)},
		{"Next among empty lines, op", of(para.Next(empty, at(1, 0), 1, true)), to(2, 0)},
		{"Next from the last empty line", of(para.Next(empty, at(2, 0), 1, true)), answer{}},
		// A line of blanks is not empty.
		{"Next over blanks", of(para.Next([]string{"a", " ", "b", "", "c"}, at(0, 0), 1, false)), to(3, 0)},
		{"Next behind blanks", of(para.Next([]string{"\t", "", "c"}, at(0, 0), 1, false)), to(1, 0)},

		{"Back", of(para.Back(l, at(5, 0), 1)), to(3, 0)},
		{"Back from the last line", of(para.Back(l, at(6, 1), 1)), to(5, 0)},
		{"Back by 2", of(para.Back(l, at(6, 0), 2)), to(3, 0)},
		{"Back from the second of two empty lines", of(para.Back(l, at(3, 0), 1)), to(0, 0)},
		{"Back from the first one", of(para.Back(l, at(2, 0), 1)), to(0, 0)},
		{"Back from the line behind them", of(para.Back(l, at(4, 0), 1)), to(3, 0)},
		{"Back by 3", of(para.Back(l, at(6, 0), 3)), to(0, 0)},
		{"Back by 4", of(para.Back(l, at(6, 0), 4)), answer{}},
		{"Back within the first line", of(para.Back(l, at(0, 1), 1)), to(0, 0)},
		{"Back from the beginning", of(para.Back(l, at(0, 0), 1)), answer{}},
		{"Back to an empty first line", of(para.Back(full, at(2, 0), 1)), to(0, 0)},
		{"Back beyond it", of(para.Back(full, at(2, 0), 2)), answer{}},
		{"Back among empty lines", of(para.Back(empty, at(2, 0), 1)), to(0, 0)},
		{"Back over blanks", of(para.Back([]string{"a", "", " ", "b"}, at(3, 1), 1)), to(1, 0)},

		{"Next by 0", of(para.Next(l, at(0, 0), 0, true)), answer{}},
		{"Back by 0", of(para.Back(l, at(5, 0), 0)), answer{}},
		{"Next from behind the length", of(para.Next(l, at(0, 2), 1, false)), answer{}},
		{"Back from behind the length", of(para.Back(l, at(6, 3), 1)), answer{}},
		{"Next from below the text", of(para.Next(l, at(7, 0), 1, true)), answer{}},
		{"Next in no lines", of(para.Next(nil, at(0, 0), 1, true)), answer{}},
		{"Back in no lines", of(para.Back(nil, at(0, 0), 1)), answer{}},
	} {
		if x.got != x.want {
			t.Errorf("%s: %v, want %v", x.name, x.got, x.want)
		}
	}
}

// closes tells whether a line is empty and the one beside it, in the direction of by, is not.
func closes(lines []string, line, by int) bool {
	beside := line + by
	return lines[line] == "" && beside >= 0 && beside < len(lines) && lines[beside] != ""
}

// stepped goes one paragraph from p in the direction of by, or, if there is no such line, to the edge of the text.
func stepped(lines []string, p api.Pos, by int, edge api.Pos) api.Pos {
	for line := p.Line + by; line >= 0 && line < len(lines); line += by {
		if closes(lines, line, -by) {
			return at(line, 0)
		}
	}
	return edge
}

// paragraphs answers with the place that n steps lead to; far tells whether a place is beyond another one.
func paragraphs(lines []string, p api.Pos, n, by int, edge api.Pos, far func(a, b api.Pos) bool) answer {
	for range n {
		next := stepped(lines, p, by, edge)
		if !far(next, p) {
			return answer{}
		}
		p = next
	}
	return to(p.Line, p.Col)
}

func after(a, b api.Pos) bool { return span.Less(b, a) }

// lastOf is the place of the last line's last byte, or behind it.
func lastOf(lines []string, op bool) api.Pos {
	line := len(lines) - 1
	if op || lines[line] == "" {
		return at(line, len(lines[line]))
	}
	return at(line, len(lines[line])-1)
}

func TestParagraphs(t *testing.T) {
	each(func(lines []string, p api.Pos, n int, _ []api.Pos, fails bool) {
		for _, op := range []bool{false, true} {
			var want answer
			if !fails {
				want = paragraphs(lines, p, n, 1, lastOf(lines, op), after)
			}
			if got := of(para.Next(lines, p, n, op)); got != want {
				t.Fatalf("Next(%q, %v, %d, %t): %v, want %v", lines, p, n, op, got, want)
			}
		}
		var want answer
		if !fails {
			want = paragraphs(lines, p, n, -1, at(0, 0), span.Less)
		}
		if got := of(para.Back(lines, p, n)); got != want {
			t.Fatalf("Back(%q, %v, %d): %v, want %v", lines, p, n, got, want)
		}
	})
}

// P10.2: Sentences.

func told(s iter.Seq[api.Pos]) string {
	var out []string
	for p := range s {
		out = append(out, fmt.Sprintf("%d,%d", p.Line, p.Col))
	}
	return strings.Join(out, " ")
}

func TestSentencesExamples(t *testing.T) {
	for _, x := range []struct {
		lines []string
		want  string
	}{
		{nil, ""},
		{[]string{"A.", "  ", "b"}, "0,0"},
		{[]string{"A. B", ""}, "0,0 0,3 1,0"},
		{[]string{"A. B", "c. D"}, "0,0 0,3 1,3"},
		// Empty lines.
		{[]string{""}, "0,0"},
		{[]string{"", "", ""}, "0,0"},
		{[]string{"a", "", "", "b", ""}, "0,0 1,0 3,0 4,0"},
		// First bytes of paragraphs.
		{[]string{"  a", "b"}, "0,2"},
		{[]string{"", "\t a"}, "0,0 1,2"},
		// A line of blanks has none, and the line behind it does not begin anew.
		{[]string{"  ", "b"}, ""},
		{[]string{"", " ", "b"}, "0,0"},
		{[]string{" ", "", "b"}, "1,0 2,0"},
		{[]string{"a", " ", "", "b"}, "0,0 2,0 3,0"},
		// Stops within a line.
		{[]string{"A! b? c. d"}, "0,0 0,3 0,6 0,9"},
		{[]string{"A.\tb. \t c"}, "0,0 0,3 0,8"},
		{[]string{"A.b !c ?d"}, "0,0"},
		{[]string{"A... B"}, "0,0 0,5"},
		{[]string{"A.) B.\" C.] D.' E"}, "0,0"},
		{[]string{". . a"}, "0,0 0,2 0,4"},
		{[]string{"a, b; c: d"}, "0,0"},
		{[]string{"a.\x00b.\rc.\xa0d.\n e"}, "0,0"},
		// Stops at the end of a line.
		{[]string{"A.", "b"}, "0,0 1,0"},
		{[]string{"A! ", "  b"}, "0,0 1,2"},
		{[]string{"A?\t", ".", "b"}, "0,0 1,0 2,0"},
		{[]string{"A.", "", "b"}, "0,0 1,0 2,0"},
		{[]string{"A.", "", " ", "b"}, "0,0 1,0"},
		{[]string{"A.", " \t", "", "b"}, "0,0 2,0 3,0"},
		{[]string{"A. b", "c"}, "0,0 0,3"},
		{[]string{"A.)", "b"}, "0,0"},
		{[]string{"A."}, "0,0"},
		{[]string{"A. "}, "0,0"},
	} {
		if got := told(para.Sentences(x.lines)); got != x.want {
			t.Errorf("%q: %q, want %q", x.lines, got, x.want)
		}
	}
}

var (
	// filled finds the bytes of a line that are not blanks.
	filled = regexp.MustCompile(`[^ \t]`)
	// stop finds a stop with what is left of its line.
	stop = regexp.MustCompile(`[.!?]([ \t]|$)`)
)

// single writes a line with a letter for each byte that is no letter, so that every byte is a rune.
func single(line string) string {
	out := []byte(line)
	for i, c := range out {
		if c >= 128 || c == '\n' {
			out[i] = 'x'
		}
	}
	return string(out)
}

// firstFrom gives the first byte of a line, from a column on, that is not a blank.
func firstFrom(lines []string, line, col int) []api.Pos {
	if line >= len(lines) {
		return nil
	}
	if found := filled.FindStringIndex(single(lines[line])[col:]); found != nil {
		return []api.Pos{at(line, col+found[0])}
	}
	return nil
}

// model gives the beginnings that each sentence of the chapter finds, sorted, and each once.
func model(lines []string) []api.Pos {
	var out []api.Pos
	for i, line := range lines {
		if line == "" && (i == 0 || lines[i-1] != "") {
			out = append(out, at(i, 0))
		}
		if line != "" && (i == 0 || lines[i-1] == "") {
			out = append(out, firstFrom(lines, i, 0)...)
		}
		for col := range len(line) {
			if place := stop.FindStringIndex(single(line)[col:]); place == nil || place[0] != 0 {
				continue
			}
			behind := firstFrom(lines, i, col+1)
			if behind == nil {
				behind = firstFrom(lines, i+1, 0)
			}
			out = append(out, behind...)
		}
	}
	slices.SortFunc(out, func(a, b api.Pos) int {
		switch {
		case span.Less(a, b):
			return -1
		case span.Less(b, a):
			return 1
		}
		return 0
	})
	return slices.Compact(out)
}

func TestSentences(t *testing.T) {
	for lines := range all {
		if got, want := slices.Collect(para.Sentences(lines)), model(lines); !slices.Equal(got, want) {
			t.Fatalf("Sentences(%q): %v, want %v", lines, got, want)
		}
	}
}

// Every byte stands behind a letter, and every other byte behind it.
func TestSentencesOfAllBytes(t *testing.T) {
	for a := range 256 {
		for b := range 256 {
			lines := []string{string([]byte{'x', byte(a), byte(b), 'x'}), string([]byte{byte(b), 'x', byte(a)}), string([]byte{byte(a), byte(b)})}
			if got, want := slices.Collect(para.Sentences(lines)), model(lines); !slices.Equal(got, want) {
				t.Fatalf("Sentences(%q): %v, want %v", lines, got, want)
			}
		}
	}
}

func TestSentencesStopWithTheConsumer(t *testing.T) {
	for lines := range all {
		s := para.Sentences(lines)
		whole := slices.Collect(s)
		for n := range len(whole) {
			var got []api.Pos
			// To yield again after the consumer stops would panic.
			for p := range s {
				got = append(got, p)
				if len(got) == n+1 {
					break
				}
			}
			if !slices.Equal(got, whole[:n+1]) {
				t.Errorf("%q stopped at %d: %v, want %v", lines, n+1, got, whole[:n+1])
			}
		}
	}
}

func TestSentencesBeginAgain(t *testing.T) {
	s := para.Sentences([]string{"A. B", "", "c!", "d"})
	whole := slices.Collect(s)
	var inner []api.Pos
	for range s {
		inner = append(inner, slices.Collect(s)...)
	}
	if len(whole) != 5 || !slices.Equal(inner, slices.Repeat(whole, 5)) {
		t.Errorf("%v, and within one another %v", whole, inner)
	}
}

// The iterator does not keep its argument: what the caller does with it afterwards is not seen.
func TestSentencesAreApart(t *testing.T) {
	lines := []string{"A. B", "c"}
	s := para.Sentences(lines)
	lines[0], lines[1] = "", ". . ."
	if got := told(s); got != "0,0 0,3" {
		t.Errorf("after a change: %q", got)
	}
}

// P10.2: SentNext and SentBack.

func TestSentenceMovesExamples(t *testing.T) {
	l := []string{"A. B", "c. D"}
	blanks, empty := []string{"", "a.  "}, []string{"a", ""}
	for _, x := range []struct {
		name      string
		got, want answer
	}{
		{"SentNext by 3, op", of(para.SentNext(l, at(0, 0), 3, true)), to(1, 4)},
		{"SentNext by 3", of(para.SentNext(l, at(0, 0), 3, false)), answer{}},
		{"SentNext by 4, op", of(para.SentNext(l, at(0, 0), 4, true)), answer{}},
		{"SentNext by 2, op", of(para.SentNext(l, at(0, 0), 2, true)), to(1, 3)},
		{"SentNext by 2", of(para.SentNext(l, at(0, 0), 2, false)), to(1, 3)},
		{"SentNext", of(para.SentNext(l, at(0, 2), 1, false)), to(0, 3)},
		{"SentNext from a beginning", of(para.SentNext(l, at(0, 3), 1, false)), to(1, 3)},
		{"SentNext from the last byte, op", of(para.SentNext(l, at(1, 3), 1, true)), to(1, 4)},
		{"SentNext from the last byte, by 2, op", of(para.SentNext(l, at(1, 3), 2, true)), answer{}},
		{"SentNext from the end, op", of(para.SentNext(l, at(1, 4), 1, true)), answer{}},
		{"SentNext behind blanks, op", of(para.SentNext(blanks, at(1, 2), 1, true)), to(1, 4)},
		{"SentNext to an empty last line, by 2, op", of(para.SentNext(empty, at(0, 0), 2, true)), to(1, 0)},
		{"SentNext beyond it, op", of(para.SentNext(empty, at(1, 0), 1, true)), answer{}},

		{"SentBack by 2", of(para.SentBack(l, at(1, 2), 2)), to(0, 0)},
		{"SentBack", of(para.SentBack(l, at(1, 2), 1)), to(0, 3)},
		{"SentBack by 3", of(para.SentBack(l, at(1, 2), 3)), answer{}},
		{"SentBack from the end", of(para.SentBack(l, at(1, 4), 1)), to(1, 3)},
		{"SentBack from a beginning", of(para.SentBack(l, at(1, 3), 1)), to(0, 3)},
		{"SentBack from the first one", of(para.SentBack(l, at(0, 0), 1)), answer{}},
		{"SentBack within the first one", of(para.SentBack(l, at(0, 1), 1)), to(0, 0)},
		{"SentBack ahead of the first one", of(para.SentBack([]string{"  a"}, at(0, 1), 1)), answer{}},

		{"SentNext by 0", of(para.SentNext(l, at(0, 0), 0, true)), answer{}},
		{"SentBack by 0", of(para.SentBack(l, at(1, 2), 0)), answer{}},
		{"SentNext from behind the length", of(para.SentNext(l, at(0, 5), 1, true)), answer{}},
		{"SentBack from behind the length", of(para.SentBack(l, at(1, 5), 1)), answer{}},
		{"SentBack from below the text", of(para.SentBack(l, at(2, 0), 1)), answer{}},
		{"SentNext in no lines", of(para.SentNext(nil, at(0, 0), 1, true)), answer{}},
		{"SentBack in no lines", of(para.SentBack(nil, at(0, 0), 1)), answer{}},
	} {
		if x.got != x.want {
			t.Errorf("%s: %v, want %v", x.name, x.got, x.want)
		}
	}
}

// part gives the places that keep a condition.
func part(places []api.Pos, keep func(api.Pos) bool) []api.Pos {
	var out []api.Pos
	for _, p := range places {
		if keep(p) {
			out = append(out, p)
		}
	}
	return out
}

// pick answers with the n-th place, counted from 1.
func pick(places []api.Pos, n int) answer {
	if n < 1 || n > len(places) {
		return answer{}
	}
	return to(places[n-1].Line, places[n-1].Col)
}

func TestSentenceMoves(t *testing.T) {
	each(func(lines []string, p api.Pos, n int, starts []api.Pos, fails bool) {
		var next, op, back answer
		if !fails {
			ahead := part(starts, func(q api.Pos) bool { return span.Less(p, q) })
			passed := part(starts, func(q api.Pos) bool { return span.Less(q, p) })
			slices.Reverse(passed)
			next, back = pick(ahead, n), pick(passed, n)
			op = next
			if end := lastOf(lines, true); len(ahead) == n-1 && span.Less(p, end) {
				op = to(end.Line, end.Col)
			}
		}
		if got := of(para.SentNext(lines, p, n, false)); got != next {
			t.Fatalf("SentNext(%q, %v, %d, false): %v, want %v", lines, p, n, got, next)
		}
		if got := of(para.SentNext(lines, p, n, true)); got != op {
			t.Fatalf("SentNext(%q, %v, %d, true): %v, want %v", lines, p, n, got, op)
		}
		if got := of(para.SentBack(lines, p, n)); got != back {
			t.Fatalf("SentBack(%q, %v, %d): %v, want %v", lines, p, n, got, back)
		}
	})
}

func TestManyParagraphsAndSentences(t *testing.T) {
	lines := append([]string{strings.Repeat("a. ", 5000)}, slices.Repeat([]string{"", "b! c?"}, 5000)...)
	first, last := at(0, 0), at(10000, 5)
	for i, x := range []struct{ got, want answer }{
		{of(para.Next(lines, first, 5000, false)), to(9999, 0)},
		{of(para.Next(lines, first, 5001, false)), to(10000, 4)},
		{of(para.Next(lines, first, 5001, true)), to(10000, 5)},
		{of(para.Next(lines, first, 5002, true)), answer{}},
		{of(para.Back(lines, last, 5000)), to(1, 0)},
		{of(para.Back(lines, last, 5001)), to(0, 0)},
		{of(para.Back(lines, last, 5002)), answer{}},
		{of(para.SentNext(lines, first, 19999, false)), to(10000, 3)},
		{of(para.SentNext(lines, first, 20000, false)), answer{}},
		{of(para.SentNext(lines, first, 20000, true)), to(10000, 5)},
		{of(para.SentNext(lines, first, 20001, true)), answer{}},
		{of(para.SentBack(lines, last, 20000)), to(0, 0)},
		{of(para.SentBack(lines, last, 20001)), answer{}},
	} {
		if x.got != x.want {
			t.Errorf("%d: %v, want %v", i, x.got, x.want)
		}
	}
}

func TestArgumentsAreLeftAlone(t *testing.T) {
	whole := []string{"a. b", "c", "", "d."}
	lines := whole[:2]
	for _, p := range around(lines) {
		// The lines behind the last one are not the argument's.
		if m, ok := para.Next(lines, p, 1, false); ok && m.To != at(1, 0) {
			t.Errorf("Next leads to %v from %v", m.To, p)
		}
		if m, ok := para.SentNext(lines, p, 3, true); ok {
			t.Errorf("SentNext leads to %v from %v", m.To, p)
		}
		para.Back(lines, p, 1)
		para.SentBack(lines, p, 1)
	}
	if got := told(para.Sentences(lines)); got != "0,0 0,3" {
		t.Errorf("sentences at %s", got)
	}
	if !slices.Equal(whole, []string{"a. b", "c", "", "d."}) {
		t.Errorf("the arguments are now %q", whole)
	}
}

// P10.3: a paragraph ends at an empty line: one by one, Next leads to the empty line behind each paragraph, and from the last one to the end of the text.
func TestParagraphsEndAtEmptyLines(t *testing.T) {
	for lines := range all {
		if len(lines) == 0 {
			continue
		}
		var want []api.Pos
		for i := 1; i < len(lines); i++ {
			if lines[i] == "" && lines[i-1] != "" {
				want = append(want, at(i, 0))
			}
		}
		if end := lastOf(lines, true); end != at(0, 0) && !slices.Contains(want, end) {
			want = append(want, end)
		}
		var got []api.Pos
		for p := at(0, 0); ; p = got[len(got)-1] {
			m, ok := para.Next(lines, p, 1, true)
			if !ok {
				break
			}
			got = append(got, m.To)
		}
		if !slices.Equal(got, want) {
			t.Fatalf("%q: the paragraphs end at %v, want %v", lines, got, want)
		}
	}
}
