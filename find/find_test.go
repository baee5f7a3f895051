package find_test

import (
	"iter"
	"math"
	"slices"
	"strconv"
	"strings"
	"testing"

	"foolscap/api"
	"foolscap/find"
	"foolscap/span"
)

// special texts have no lines; the lines of the chapter's examples; occurrences that overlap, and others that touch; bytes that a pattern of another kind would give a meaning; bytes that are no letters of their own; and words at the edges of lines.
var special = [][]string{
	nil, {"aaa"}, {"a b a", "", "c a"}, {"ab--c_1"}, {"ab--c_1 \xe9.", "", "--"}, {"", "", ""}, {"abababa", "ba", "b"},
	{"a.b", "a*b+", "^a", "a$", `\a`, "[ab]"}, {"aA", "AA", "a"}, {"\xc3\xa9a", "\xa9", "\x00a\x00", "a\xff"},
	{"a\nb", "\n", "b"}, {" a", "\ta\t", "a ", "_a1", "Z9.z0", "-a-b-"}, {"a", "a", "a", "a", "a"},
}

// patterns are those that are sought in every text; some are longer than its lines.
var patterns = []string{"", "a", "b", "aa", "ab", "ba", "aba", "aaaa", ".", "a.", "A", "\n", "a\nb", "\xa9", "\x00", " ", "a*", "abababab", "aaaaaaaaaaaaaaaaaaaa"}

// counts are below, at and above those after which a round ends, and at and above the greatest one.
var counts = []int{math.MinInt, -1, 0, 1, 2, 3, 4, 5, 6, 13, 9999, 1<<30 - 1, 1 << 30, 1<<30 + 1, 1 << 62, math.MaxInt}

func at(line, col int) api.Pos { return api.Pos{Line: line, Col: col} }

// short yields all texts of at most so many bytes, line breaks among them, over some bytes.
func short(bytes string, most int, yield func([]string) bool) bool {
	texts := []string{""}
	for i := 0; i < len(texts); i++ {
		if !yield(strings.Split(texts[i], "\n")) {
			return false
		}
		for _, c := range bytes {
			if len(texts[i]) < most {
				texts = append(texts, texts[i]+string(c))
			}
		}
	}
	return true
}

// all yields the special texts, and short ones.
func all(yield func([]string) bool) {
	for _, lines := range special {
		if !yield(lines) {
			return
		}
	}
	if short("a\n", 6, yield) && short("ab\n", 4, yield) {
		short("a .\n", 4, yield)
	}
}

// around gives every position in a text, and those beyond its edges.
func around(lines []string) []api.Pos {
	out := []api.Pos{at(math.MinInt, 0), at(math.MaxInt, 0), at(-1, 0), at(len(lines), 0), at(len(lines)+1, 0)}
	for i, line := range lines {
		for _, col := range []int{math.MinInt, -1, len(line) + 1, api.End, math.MaxInt} {
			out = append(out, at(i, col))
		}
		for col := range len(line) + 1 {
			out = append(out, at(i, col))
		}
	}
	return out
}

// isPosition tells whether p is a position of lines, by the words of chapter 7.
func isPosition(lines []string, p api.Pos) bool {
	return p.Line >= 0 && p.Line < len(lines) && p.Col >= 0 && p.Col <= len(lines[p.Line])
}

// model gives all positions at which a pattern occurs within a line, by the words of the chapter.
func model(lines []string, pattern string) []api.Pos {
	var out []api.Pos
	for i, line := range lines {
		for from := 0; pattern != "" && from+len(pattern) <= len(line); from++ {
			if line[from:from+len(pattern)] == pattern {
				out = append(out, at(i, from))
			}
		}
	}
	return out
}

// told tells the places that an iterator yields.
func told(s iter.Seq[api.Pos]) string {
	var out []string
	for p := range s {
		out = append(out, strconv.Itoa(p.Line)+","+strconv.Itoa(p.Col))
	}
	return strings.Join(out, " ")
}

// P12.1: All.

func TestAllExamples(t *testing.T) {
	for _, x := range []struct {
		pattern string
		lines   []string
		want    string
	}{
		{"aa", []string{"aaa"}, "0,0 0,1"},
		{"aba", []string{"ababa", "", "aba"}, "0,0 0,2 2,0"},
		{"a", []string{"a b a", "", "c a"}, "0,0 0,4 2,2"},
		{"a", []string{"a"}, "0,0"},
		{"ab", []string{"a", "b"}, ""},
		{"ab", []string{"aab"}, "0,1"},
		{"abc", []string{"ab"}, ""},
		{"a", []string{"", ""}, ""},
		{"a", nil, ""},
		{"", []string{"a", ""}, ""},
		{"", nil, ""},
		{" ", []string{" a ", "\t"}, "0,0 0,2"},
		// A pattern is a text: no byte of it stands for others.
		{".", []string{"a.b"}, "0,1"},
		{"a*", []string{"aa", "a*"}, "1,0"},
		{"^a", []string{"a", "^a"}, "1,0"},
		{`\a`, []string{`a\a`}, "0,1"},
		{"a", []string{"A"}, ""},
		{"A", []string{"aA"}, "0,1"},
		// It occurs by its bytes, wherever they begin.
		{"\xa9", []string{"\xc3\xa9", "\xa9"}, "0,1 1,0"},
		{"\u00e9", []string{"e\u00e9"}, "0,1"},
		{"\xff", []string{"\ufffd", "\xff"}, "1,0"},
		{"\x00", []string{"a\x00"}, "0,1"},
		// A line break between lines is no byte of them, but one in a line is.
		{"\n", []string{"a", "b"}, ""},
		{"a\nb", []string{"a", "b"}, ""},
		{"a\nb", []string{"a\nb"}, "0,0"},
	} {
		if got := told(find.All(x.lines, x.pattern)); got != x.want {
			t.Errorf("%q in %q: %s, want %s", x.pattern, x.lines, got, x.want)
		}
	}
}

func TestAll(t *testing.T) {
	for lines := range all {
		for _, pattern := range patterns {
			if got, want := slices.Collect(find.All(lines, pattern)), model(lines, pattern); !slices.Equal(got, want) {
				t.Fatalf("All(%q, %q): %v, want %v", lines, pattern, got, want)
			}
		}
	}
}

func TestAllOfAllBytes(t *testing.T) {
	var row []byte
	for i := range 256 {
		row = append(row, byte(i))
	}
	for i := range 256 {
		c := string([]byte{byte(i)})
		lines := []string{string(row), c + c, ""}
		if got, want := slices.Collect(find.All(lines, c)), []api.Pos{at(0, i), at(1, 0), at(1, 1)}; !slices.Equal(got, want) {
			t.Errorf("%q: %v, want %v", c, got, want)
		}
	}
}

func TestAllStopsWithTheConsumer(t *testing.T) {
	for lines := range all {
		for _, pattern := range []string{"a", "aa", "b"} {
			s := find.All(lines, pattern)
			whole := slices.Collect(s)
			for n := range len(whole) {
				var got []api.Pos
				// To yield again after the consumer stops would panic.
				for p := range s {
					got = append(got, p)
					if len(got) == n+1 {
						break
					}
				}
				if !slices.Equal(got, whole[:n+1]) {
					t.Fatalf("%q in %q stopped at %d: %v, want %v", pattern, lines, n+1, got, whole[:n+1])
				}
			}
		}
	}
}

func TestAllBeginsAgain(t *testing.T) {
	s := find.All([]string{"aaa", "", "ba"}, "a")
	whole := slices.Collect(s)
	var inner []api.Pos
	for range s {
		inner = append(inner, slices.Collect(s)...)
	}
	if want := slices.Repeat(whole, 4); len(whole) != 4 || !slices.Equal(inner, want) {
		t.Errorf("%v, want %v", inner, want)
	}
}

// The iterator does not keep its argument: what the caller does with it afterwards is not seen.
func TestAllIsApart(t *testing.T) {
	whole := []string{"ab", "ca", "a"}
	s := find.All(whole[:2], "a")
	whole[0], whole[1] = "", "aaa"
	if got := told(s); got != "0,0 1,1" {
		t.Errorf("occurrences at %s", got)
	}
}

// P12.1: Search.

// answer is what Search answers.
type answer struct {
	move api.Move
	ok   bool
}

func of(m api.Move, ok bool) answer { return answer{m, ok} }

// to is the answer of a search that does not fail.
func to(line, col int) answer {
	return answer{api.Move{To: at(line, col), Way: api.Exclusive, Jump: true, Want: -1}, true}
}

func TestSearchExamples(t *testing.T) {
	l := []string{"a b a", "", "c a"}
	over := []string{"aaa", "a"}
	for _, x := range []struct {
		name      string
		got, want answer
	}{
		{"ahead from an occurrence", of(find.Search(l, at(0, 0), "a", false, 1)), to(0, 4)},
		{"second ahead", of(find.Search(l, at(0, 0), "a", false, 2)), to(2, 2)},
		{"third ahead is its own", of(find.Search(l, at(0, 0), "a", false, 3)), to(0, 0)},
		{"fourth ahead is in the next round", of(find.Search(l, at(0, 0), "a", false, 4)), to(0, 4)},
		{"back from an occurrence", of(find.Search(l, at(0, 4), "a", true, 1)), to(0, 0)},
		{"second back", of(find.Search(l, at(0, 4), "a", true, 2)), to(2, 2)},
		{"third back is its own", of(find.Search(l, at(0, 4), "a", true, 3)), to(0, 4)},
		{"fourth back is in the next round", of(find.Search(l, at(0, 4), "a", true, 4)), to(0, 0)},

		{"ahead from between occurrences", of(find.Search(l, at(0, 1), "a", false, 1)), to(0, 4)},
		{"back from between occurrences", of(find.Search(l, at(0, 1), "a", true, 1)), to(0, 0)},
		{"ahead from an empty line", of(find.Search(l, at(1, 0), "a", false, 1)), to(2, 2)},
		{"back from an empty line", of(find.Search(l, at(1, 0), "a", true, 1)), to(0, 4)},
		{"ahead from a line's end", of(find.Search(l, at(0, 5), "a", false, 1)), to(2, 2)},
		{"back from a line's end", of(find.Search(l, at(0, 5), "a", true, 1)), to(0, 4)},
		{"ahead from the last one", of(find.Search(l, at(2, 2), "a", false, 1)), to(0, 0)},
		{"ahead from behind the last one", of(find.Search(l, at(2, 3), "a", false, 1)), to(0, 0)},
		{"back from the first one", of(find.Search(l, at(0, 0), "a", true, 1)), to(2, 2)},
		{"back from ahead of the first one", of(find.Search(l, at(0, 0), "b", true, 1)), to(0, 2)},

		{"the only one, from it", of(find.Search(l, at(0, 2), "b", false, 1)), to(0, 2)},
		{"the only one, back from it", of(find.Search(l, at(0, 2), "b", true, 5)), to(0, 2)},
		{"ahead over occurrences that overlap", of(find.Search(over, at(0, 0), "aa", false, 1)), to(0, 1)},
		{"round over occurrences that overlap", of(find.Search(over, at(0, 1), "aa", false, 1)), to(0, 0)},
		{"back from within an occurrence", of(find.Search(over, at(0, 2), "aa", true, 1)), to(0, 1)},

		{"no occurrence", of(find.Search(l, at(0, 0), "z", false, 1)), answer{}},
		{"no occurrence back", of(find.Search(l, at(0, 0), "z", true, 1)), answer{}},
		{"empty pattern", of(find.Search(l, at(0, 0), "", false, 1)), answer{}},
		{"empty pattern back", of(find.Search(l, at(1, 0), "", true, 1)), answer{}},
		{"longer than each line", of(find.Search(l, at(0, 0), "a b a ", false, 1)), answer{}},
		{"over a line break", of(find.Search(l, at(0, 0), "\n", false, 1)), answer{}},
		{"count zero", of(find.Search(l, at(0, 0), "a", false, 0)), answer{}},
		{"count below zero", of(find.Search(l, at(0, 0), "a", true, -1)), answer{}},
		{"from behind the length", of(find.Search(l, at(0, 6), "a", false, 1)), answer{}},
		{"from ahead of the line", of(find.Search(l, at(0, -1), "a", false, 1)), answer{}},
		{"from below the text", of(find.Search(l, at(3, 0), "a", true, 1)), answer{}},
		{"from above the text", of(find.Search(l, at(-1, 0), "a", false, 1)), answer{}},
		{"in no lines", of(find.Search(nil, at(0, 0), "a", false, 1)), answer{}},
		{"in an empty line", of(find.Search([]string{""}, at(0, 0), "a", false, 1)), answer{}},
	} {
		if x.got != x.want {
			t.Errorf("%s: %v, want %v", x.name, x.got, x.want)
		}
	}
}

// round gives the occurrences in the order in which one round of a search comes to them.
func round(places []api.Pos, p api.Pos, back bool) []api.Pos {
	var near, far, own []api.Pos
	for _, q := range places {
		switch {
		case q == p:
			own = append(own, q)
		case span.Less(p, q) != back:
			near = append(near, q)
		default:
			far = append(far, q)
		}
	}
	if back {
		slices.Reverse(near)
		slices.Reverse(far)
	}
	return slices.Concat(near, far, own)
}

// sought answers with the n-th of rounds.
func sought(lines []string, p api.Pos, turn []api.Pos, n int) answer {
	if !isPosition(lines, p) || n < 1 || len(turn) == 0 {
		return answer{}
	}
	q := turn[(min(n, 1<<30)-1)%len(turn)]
	return to(q.Line, q.Col)
}

func TestSearch(t *testing.T) {
	for lines := range all {
		for _, pattern := range patterns {
			places := model(lines, pattern)
			for _, p := range around(lines) {
				for _, back := range []bool{false, true} {
					turn := round(places, p, back)
					for _, n := range counts {
						if got, want := of(find.Search(lines, p, pattern, back, n)), sought(lines, p, turn, n); got != want {
							t.Fatalf("Search(%q, %v, %q, %t, %d): %v, want %v", lines, p, pattern, back, n, got, want)
						}
					}
				}
			}
		}
	}
}

// The rounds go on and on, so it is seen at which count they end.
func TestGreatCounts(t *testing.T) {
	lines := []string{"aaaaa"}
	for _, back := range []bool{false, true} {
		most := of(find.Search(lines, at(0, 0), "a", back, 1<<30))
		if before := of(find.Search(lines, at(0, 0), "a", back, 1<<30-1)); before == most {
			t.Errorf("back %t: one less leads to %v too", back, before)
		}
		for _, n := range []int{1<<30 + 1, 1<<30 + 2, 1 << 31, 1 << 32, math.MaxInt - 1, math.MaxInt} {
			if got := of(find.Search(lines, at(0, 0), "a", back, n)); got != most {
				t.Errorf("back %t, %d: %v, want %v", back, n, got, most)
			}
		}
	}
}

// P12.2: Word.

// found is what Word answers.
type found struct {
	p    api.Pos
	text string
	ok   bool
}

func word(p api.Pos, text string, ok bool) found { return found{p, text, ok} }

func TestWordExamples(t *testing.T) {
	l := []string{"ab--c_1", "", " x.y z", "--", "a"}
	for _, x := range []struct {
		name      string
		got, want found
	}{
		{"from ahead of a word", word(find.Word(l, at(0, 2))), found{at(0, 4), "c_1", true}},
		{"from just ahead of it", word(find.Word(l, at(0, 3))), found{at(0, 4), "c_1", true}},
		{"from its first byte", word(find.Word(l, at(0, 4))), found{at(0, 4), "c_1", true}},
		{"from its last byte", word(find.Word(l, at(0, 6))), found{at(0, 4), "c_1", true}},
		{"from the line's first byte", word(find.Word(l, at(0, 0))), found{at(0, 0), "ab", true}},
		{"from within the line's first word", word(find.Word(l, at(0, 1))), found{at(0, 0), "ab", true}},
		{"from behind the line's last word", word(find.Word(l, at(0, 7))), found{}},
		{"from an empty line", word(find.Word(l, at(1, 0))), found{}},
		{"from a blank", word(find.Word(l, at(2, 0))), found{at(2, 1), "x", true}},
		{"from a stop", word(find.Word(l, at(2, 2))), found{at(2, 3), "y", true}},
		{"a blank ends a word", word(find.Word(l, at(2, 3))), found{at(2, 3), "y", true}},
		{"from the blank ahead of the last word", word(find.Word(l, at(2, 4))), found{at(2, 5), "z", true}},
		// The words of other lines do not count.
		{"from a line without words", word(find.Word(l, at(3, 0))), found{}},
		{"from its end", word(find.Word(l, at(3, 2))), found{}},
		{"a word that is a line", word(find.Word(l, at(4, 0))), found{at(4, 0), "a", true}},
		{"from behind it", word(find.Word(l, at(4, 1))), found{}},
		{"of bytes of 128 and above", word(find.Word([]string{"-\xc3\xa9\xff-"}, at(0, 2))), found{at(0, 1), "\xc3\xa9\xff", true}},

		{"from behind the length", word(find.Word(l, at(0, 8))), found{}},
		{"from ahead of the line", word(find.Word(l, at(0, -1))), found{}},
		{"from below the text", word(find.Word(l, at(5, 0))), found{}},
		{"from above the text", word(find.Word(l, at(-1, 0))), found{}},
		{"in no lines", word(find.Word(nil, at(0, 0))), found{}},
	} {
		if x.got != x.want {
			t.Errorf("%s: %v, want %v", x.name, x.got, x.want)
		}
	}
}

// lettered tells whether a byte is of class 1, by the words of chapter 5.
func lettered(c byte) bool {
	return c >= 0x80 || strings.IndexByte("abcdefghijklmnopqrstuvwxyzABCDEFGHIJKLMNOPQRSTUVWXYZ0123456789_", c) >= 0
}

// isWord tells whether a part of a line is of letters only, and neither preceded nor followed by one.
func isWord(line string, from, to int) bool {
	for i := from; i < to; i++ {
		if !lettered(line[i]) {
			return false
		}
	}
	return (from == 0 || !lettered(line[from-1])) && (to == len(line) || !lettered(line[to]))
}

// wordAt answers with the word that holds the byte at p or is the first one to begin behind p.
func wordAt(lines []string, p api.Pos) found {
	if !isPosition(lines, p) {
		return found{}
	}
	line := lines[p.Line]
	// As words don't touch, the first one that ends behind p is the one.
	for from := range len(line) {
		for to := max(from, p.Col) + 1; to <= len(line); to++ {
			if isWord(line, from, to) {
				return found{at(p.Line, from), line[from:to], true}
			}
		}
	}
	return found{}
}

func TestWord(t *testing.T) {
	for lines := range all {
		for _, p := range around(lines) {
			if got, want := word(find.Word(lines, p)), wordAt(lines, p); got != want {
				t.Fatalf("Word(%q, %v): %v, want %v", lines, p, got, want)
			}
		}
	}
}

// Every byte stands alone, between letters, and between others.
func TestWordOfAllBytes(t *testing.T) {
	for i := range 256 {
		c := string([]byte{byte(i)})
		lines := []string{c, "a" + c + "b", "." + c + "-", c + "a", "a" + c, c + c + " " + c}
		for _, p := range around(lines) {
			if got, want := word(find.Word(lines, p)), wordAt(lines, p); got != want {
				t.Fatalf("Word(%q, %v): %v, want %v", lines, p, got, want)
			}
		}
	}
}

func TestLongLines(t *testing.T) {
	const length = 1 << 20
	lines := []string{strings.Repeat("a", length), strings.Repeat(".", length) + "b"}
	pattern := strings.Repeat("a", 64)
	last := length - 64
	n := 0
	for p := range find.All(lines, pattern) {
		if p != at(0, n) {
			t.Fatalf("%d: %v", n, p)
		}
		n++
	}
	if n != last+1 {
		t.Errorf("%d occurrences", n)
	}
	if got := of(find.Search(lines, at(0, 0), pattern, true, 1)); got != to(0, last) {
		t.Errorf("back: %v", got)
	}
	if got := of(find.Search(lines, at(0, 0), pattern, false, 1<<30)); got != to(0, (1<<30)%(last+1)) {
		t.Errorf("ahead: %v", got)
	}
	if got := word(find.Word(lines, at(0, length/2))); got != (found{at(0, 0), lines[0], true}) {
		t.Errorf("the word at %v has %d bytes", got.p, len(got.text))
	}
	if got := word(find.Word(lines, at(1, 0))); got != (found{at(1, length), "b", true}) {
		t.Errorf("the word at %v is %q", got.p, got.text)
	}
}

func TestArgumentsAreLeftAlone(t *testing.T) {
	whole := []string{"ab", "b", "a.b", "a"}
	lines := whole[:2]
	for _, p := range around(lines) {
		// The lines behind the last one are not the argument's.
		if m, ok := find.Search(lines, p, "a", false, 2); ok && m.To != at(0, 0) {
			t.Errorf("Search leads to %v from %v", m.To, p)
		}
		find.Word(lines, p)
	}
	if got := told(find.All(lines, "b")); got != "0,1 1,0" {
		t.Errorf("occurrences at %s", got)
	}
	if !slices.Equal(whole, []string{"ab", "b", "a.b", "a"}) {
		t.Errorf("the arguments are now %q", whole)
	}
}

// P12.3: as many searches as there are occurrences lead back, over each of them once, one by one or at once.
func TestSearchesLeadBack(t *testing.T) {
	for lines := range all {
		for _, pattern := range patterns {
			places := slices.Collect(find.All(lines, pattern))
			for _, p := range places {
				for _, back := range []bool{false, true} {
					if got := of(find.Search(lines, p, pattern, back, len(places))); got != to(p.Line, p.Col) {
						t.Fatalf("Search(%q, %v, %q, %t, %d): %v", lines, p, pattern, back, len(places), got)
					}
					if got := walk(lines, p, pattern, back, len(places)); !slices.Equal(got, places) {
						t.Fatalf("from %v through %q for %q, back %t: over %v, want %v", p, lines, pattern, back, got, places)
					}
				}
			}
		}
	}
}

// walk gives the places to which so many searches lead one by one, in order, if the last one leads back.
func walk(lines []string, p api.Pos, pattern string, back bool, n int) []api.Pos {
	var out []api.Pos
	q := p
	for range n {
		m, _ := find.Search(lines, q, pattern, back, 1)
		q = m.To
		out = append(out, q)
	}
	if q != p {
		return nil
	}
	slices.SortFunc(out, func(a, b api.Pos) int {
		if span.Less(a, b) {
			return -1
		}
		return 1
	})
	return out
}
