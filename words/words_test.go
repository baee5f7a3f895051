package words_test

import (
	"fmt"
	"iter"
	"math"
	"regexp"
	"slices"
	"strings"
	"testing"

	"foolscap/api"
	"foolscap/span"
	"foolscap/words"
)

// special texts have no lines; bytes of all classes at their edges; blanks of both kinds; and bytes that are no letters.
var special = [][]string{
	nil, {"ab.c  d", ""}, {"ab.c  d", "", " e", "f  "}, {"", "", "x-", ""}, {"\t", "a\t.", "\t \t"},
	{"\x00\xff\x00", "\xc3\xa9-\xc3", "a\nb\ra"}, {"aZ_09", "@[`{/:", "a@Z[_`z{0/9:"},
}

// counts are below, at and above those that the texts have words for.
var counts = []int{math.MinInt, -1, 0, 1, 2, 3, 4, 5, 6, 7, 9999, api.End, api.End + 1, 1 << 62, math.MaxInt}

var sizes = []bool{false, true}

func at(line, col int) api.Pos { return api.Pos{Line: line, Col: col} }

// short yields all texts of at most five bytes, line breaks among them, over a byte of each class.
func short(yield func([]string) bool) {
	texts := []string{""}
	for i := 0; i < len(texts); i++ {
		if !yield(strings.Split(texts[i], "\n")) {
			return
		}
		for _, c := range "a. \n" {
			if len(texts[i]) < 5 {
				texts = append(texts, texts[i]+string(c))
			}
		}
	}
}

// all yields the special and the short texts.
func all(yield func([]string) bool) {
	for _, lines := range special {
		if !yield(lines) {
			return
		}
	}
	short(yield)
}

// around gives every position in a text, and those beyond its edges.
func around(lines []string) []api.Pos {
	out := []api.Pos{at(math.MinInt, 0), at(math.MaxInt, 0), at(-1, 0), at(len(lines), 0), at(len(lines)+1, 0)}
	for i, line := range lines {
		for _, col := range []int{math.MinInt, -1, len(line) + 1, api.End, math.MaxInt} {
			out = append(out, at(i, col))
		}
		for col := range len(line) + 1 {
			out = append(out, at(i, col))
		}
	}
	return out
}

// isPosition tells whether p is a position of lines, by the words of the chapter.
func isPosition(lines []string, p api.Pos) bool {
	return p.Line >= 0 && p.Line < len(lines) && p.Col >= 0 && p.Col <= len(lines[p.Line])
}

// letters are the bytes below 128 that are of class 1.
const letters = "abcdefghijklmnopqrstuvwxyzABCDEFGHIJKLMNOPQRSTUVWXYZ0123456789_"

// classes writes a line with w, o or a space for each byte.
func classes(line string) string {
	out := []byte(line)
	for i, c := range out {
		switch {
		case c == ' ' || c == '\t':
			out[i] = ' '
		case c >= 128 || strings.IndexByte(letters, c) >= 0:
			out[i] = 'w'
		default:
			out[i] = 'o'
		}
	}
	return string(out)
}

var (
	smallWord = regexp.MustCompile(`w+|o+`)
	bigWord   = regexp.MustCompile(`[wo]+`)
)

// model gives where the words of a text begin and end.
func model(lines []string, big bool) (starts, ends []api.Pos) {
	form := smallWord
	if big {
		form = bigWord
	}
	for i, line := range lines {
		if line == "" {
			starts = append(starts, at(i, 0))
		}
		for _, w := range form.FindAllStringIndex(classes(line), -1) {
			starts = append(starts, at(i, w[0]))
			ends = append(ends, at(i, w[1]-1))
		}
	}
	return starts, ends
}

// part gives the places that keep a condition.
func part(places []api.Pos, keep func(api.Pos) bool) []api.Pos {
	var out []api.Pos
	for _, p := range places {
		if keep(p) {
			out = append(out, p)
		}
	}
	return out
}

// beyond gives the places after p, and behind those before it, the nearest one first.
func beyond(places []api.Pos, p api.Pos) []api.Pos {
	return part(places, func(q api.Pos) bool { return span.Less(p, q) })
}

func behind(places []api.Pos, p api.Pos) []api.Pos {
	out := part(places, func(q api.Pos) bool { return span.Less(q, p) })
	slices.Reverse(out)
	return out
}

// answer is what a motion answers.
type answer struct {
	move api.Move
	ok   bool
}

func of(m api.Move, ok bool) answer { return answer{m, ok} }

// to is the answer of a motion that does not fail.
func to(line, col, way int) answer {
	return answer{api.Move{To: at(line, col), Way: way, Want: -1}, true}
}

// pick answers with the n-th place, counted from 1.
func pick(places []api.Pos, n, way int) answer {
	if n < 1 || n > len(places) {
		return answer{}
	}
	return to(places[n-1].Line, places[n-1].Col, way)
}

// each calls f for all positions in and around the texts, all counts and both sizes of words; fails tells that p is no position, or n no count.
func each(f func(lines []string, p api.Pos, n int, big, fails bool)) {
	for lines := range all {
		for _, p := range around(lines) {
			for _, n := range counts {
				for _, big := range sizes {
					f(lines, p, n, big, n < 1 || !isPosition(lines, p))
				}
			}
		}
	}
}

// P8.1: Starts and Ends.

func told(s iter.Seq[api.Pos]) string {
	var out []string
	for p := range s {
		out = append(out, fmt.Sprintf("%d,%d", p.Line, p.Col))
	}
	return strings.Join(out, " ")
}

func TestPlacesExamples(t *testing.T) {
	one, two := []string{"ab.c  d"}, []string{"ab  cd"}
	for _, x := range []struct {
		name, got, want string
	}{
		{"starts", told(words.Starts(one, false)), "0,0 0,2 0,3 0,6"},
		{"big starts", told(words.Starts(one, true)), "0,0 0,6"},
		{"ends", told(words.Ends(one, false)), "0,1 0,2 0,3 0,6"},
		{"big ends", told(words.Ends(one, true)), "0,3 0,6"},
		{"starts of two", told(words.Starts(two, false)), "0,0 0,4"},
		{"ends of two", told(words.Ends(two, false)), "0,1 0,5"},
		{"starts of empty lines", told(words.Starts([]string{"", " ", ""}, false)), "0,0 2,0"},
		{"big starts of empty lines", told(words.Starts([]string{"", " ", ""}, true)), "0,0 2,0"},
		{"ends of empty lines", told(words.Ends([]string{"", " ", ""}, false)), ""},
		{"starts of no lines", told(words.Starts(nil, false)), ""},
		{"ends of no lines", told(words.Ends(nil, true)), ""},
		// A word does not go on over a line's end.
		{"starts of lines", told(words.Starts([]string{"ab", "cd"}, false)), "0,0 1,0"},
		{"ends of lines", told(words.Ends([]string{"ab", "cd"}, true)), "0,1 1,1"},
	} {
		if x.got != x.want {
			t.Errorf("%s: %q, want %q", x.name, x.got, x.want)
		}
	}
}

func TestPlaces(t *testing.T) {
	for lines := range all {
		for _, big := range sizes {
			starts, ends := model(lines, big)
			if got := slices.Collect(words.Starts(lines, big)); !slices.Equal(got, starts) {
				t.Errorf("Starts(%q, %t): %v, want %v", lines, big, got, starts)
			}
			if got := slices.Collect(words.Ends(lines, big)); !slices.Equal(got, ends) {
				t.Errorf("Ends(%q, %t): %v, want %v", lines, big, got, ends)
			}
		}
	}
}

// Every byte stands beside every other one.
func TestPlacesOfAllBytes(t *testing.T) {
	for a := range 256 {
		for b := range 256 {
			lines := []string{string([]byte{byte(a), byte(b)})}
			for _, big := range sizes {
				starts, ends := model(lines, big)
				if got := slices.Collect(words.Starts(lines, big)); !slices.Equal(got, starts) {
					t.Fatalf("Starts(%q, %t): %v, want %v", lines, big, got, starts)
				}
				if got := slices.Collect(words.Ends(lines, big)); !slices.Equal(got, ends) {
					t.Fatalf("Ends(%q, %t): %v, want %v", lines, big, got, ends)
				}
			}
		}
	}
}

// walks gives both iterators over a text.
func walks(lines []string, big bool) []iter.Seq[api.Pos] {
	return []iter.Seq[api.Pos]{words.Starts(lines, big), words.Ends(lines, big)}
}

func TestWalksStopWithTheConsumer(t *testing.T) {
	for lines := range all {
		for i, s := range walks(lines, false) {
			whole := slices.Collect(s)
			for n := range len(whole) {
				var got []api.Pos
				// To yield again after the consumer stops would panic.
				for p := range s {
					got = append(got, p)
					if len(got) == n+1 {
						break
					}
				}
				if !slices.Equal(got, whole[:n+1]) {
					t.Errorf("%d: %q stopped at %d: %v, want %v", i, lines, n+1, got, whole[:n+1])
				}
			}
		}
	}
}

func TestWalksBeginAgain(t *testing.T) {
	lines := []string{"ab.c  d", "", "e"}
	for i, s := range walks(lines, false) {
		whole := slices.Collect(s)
		var inner []api.Pos
		for range s {
			inner = append(inner, slices.Collect(s)...)
		}
		if want := slices.Repeat(whole, len(whole)); len(whole) == 0 || !slices.Equal(inner, want) {
			t.Errorf("%d: %v, want %v", i, inner, want)
		}
	}
}

// The iterators do not keep their argument: what the caller does with it afterwards is not seen.
func TestWalksAreApart(t *testing.T) {
	whole := []string{"ab", "c.", "x"}
	for i, s := range walks(whole[:2], false) {
		want := slices.Collect(s)
		whole[0], whole[1] = "", ". ."
		if got := slices.Collect(s); !slices.Equal(got, want) {
			t.Errorf("%d: %v, want %v", i, got, want)
		}
		whole[0], whole[1] = "ab", "c."
	}
}

// P8.2: Next, Back, Tail and BackTail.

func TestMovesExamples(t *testing.T) {
	l := []string{"ab.c  d", ""}
	for _, x := range []struct {
		name      string
		got, want answer
	}{
		{"Next", of(words.Next(l, at(0, 6), 1, false, false)), to(1, 0, api.Exclusive)},
		{"Next, op", of(words.Next(l, at(0, 6), 1, false, true)), to(0, 7, api.Exclusive)},
		{"Next by 3", of(words.Next(l, at(0, 0), 3, false, false)), to(0, 6, api.Exclusive)},
		{"Next by 3, op", of(words.Next(l, at(0, 0), 3, false, true)), to(0, 6, api.Exclusive)},
		{"Next, big", of(words.Next(l, at(0, 0), 1, true, false)), to(0, 6, api.Exclusive)},
		{"Back", of(words.Back(l, at(0, 6), 1, false)), to(0, 3, api.Exclusive)},
		{"Back, big", of(words.Back(l, at(0, 6), 1, true)), to(0, 0, api.Exclusive)},
		{"Back from the start", of(words.Back(l, at(0, 0), 1, false)), answer{}},
		{"Tail", of(words.Tail(l, at(0, 1), 1, false, false)), to(0, 2, api.Inclusive)},
		{"Tail, here", of(words.Tail(l, at(0, 1), 1, false, true)), to(0, 1, api.Inclusive)},
		{"Tail, here, by 2", of(words.Tail(l, at(0, 1), 2, false, true)), to(0, 2, api.Inclusive)},
		{"Tail from the last end", of(words.Tail(l, at(0, 6), 1, false, false)), answer{}},
		{"Tail from the last end, here", of(words.Tail(l, at(0, 6), 1, false, true)), to(0, 6, api.Inclusive)},
		{"BackTail by 3", of(words.BackTail(l, at(0, 6), 3, false)), to(0, 1, api.Inclusive)},
		{"BackTail by 4", of(words.BackTail(l, at(0, 6), 4, false)), answer{}},
	} {
		if x.got != x.want {
			t.Errorf("%s: %v, want %v", x.name, x.got, x.want)
		}
	}
}

func TestNextForOperators(t *testing.T) {
	l := []string{"ab c", " d", "", "", "e", "  "}
	for _, x := range []struct {
		p    api.Pos
		n    int
		want answer
	}{
		{at(0, 0), 1, to(0, 3, api.Exclusive)},
		// The second start is on another line than the first one: up to the end of the first one's line.
		{at(0, 0), 2, to(0, 4, api.Exclusive)},
		{at(0, 0), 3, to(1, 2, api.Exclusive)},
		// An empty line has its end where it begins.
		{at(0, 0), 4, to(2, 0, api.Exclusive)},
		{at(0, 0), 5, to(3, 0, api.Exclusive)},
		// There are exactly 5 starts: up to the end of the text, even below the last of them.
		{at(0, 0), 6, to(5, 2, api.Exclusive)},
		{at(0, 0), 7, answer{}},
		{at(0, 3), 1, to(0, 4, api.Exclusive)},
		{at(4, 0), 1, to(5, 2, api.Exclusive)},
		{at(4, 0), 2, answer{}},
		// A start behind blanks of the line of p is on the line of p.
		{at(1, 0), 1, to(1, 1, api.Exclusive)},
		// No target that comes after p.
		{at(0, 4), 1, answer{}},
		{at(0, 4), 2, to(1, 2, api.Exclusive)},
		{at(2, 0), 1, answer{}},
		{at(2, 0), 2, to(3, 0, api.Exclusive)},
		{at(5, 0), 1, to(5, 2, api.Exclusive)},
		{at(5, 2), 1, answer{}},
	} {
		if got := of(words.Next(l, x.p, x.n, false, true)); got != x.want {
			t.Errorf("%v by %d: %v, want %v", x.p, x.n, got, x.want)
		}
	}
}

// modelNext says the chapter's words of Next with op, of the starts after p.
func modelNext(lines []string, p api.Pos, n int, starts []api.Pos) answer {
	if n-1 > len(starts) {
		return answer{}
	}
	from := append([]api.Pos{p}, starts...)[n-1]
	target := at(len(lines)-1, len(lines[len(lines)-1]))
	if n <= len(starts) {
		target = starts[n-1]
		if target.Line > from.Line {
			target = at(from.Line, len(lines[from.Line]))
		}
	}
	if !span.Less(p, target) {
		return answer{}
	}
	return to(target.Line, target.Col, api.Exclusive)
}

func TestNext(t *testing.T) {
	each(func(lines []string, p api.Pos, n int, big, fails bool) {
		var plain, op answer
		if !fails {
			starts, _ := model(lines, big)
			ahead := beyond(starts, p)
			plain, op = pick(ahead, n, api.Exclusive), modelNext(lines, p, n, ahead)
		}
		if got := of(words.Next(lines, p, n, big, false)); got != plain {
			t.Fatalf("Next(%q, %v, %d, %t, false): %v, want %v", lines, p, n, big, got, plain)
		}
		if got := of(words.Next(lines, p, n, big, true)); got != op {
			t.Fatalf("Next(%q, %v, %d, %t, true): %v, want %v", lines, p, n, big, got, op)
		}
	})
}

func TestTail(t *testing.T) {
	each(func(lines []string, p api.Pos, n int, big, fails bool) {
		var after, here answer
		if !fails {
			_, ends := model(lines, big)
			after = pick(beyond(ends, p), n, api.Inclusive)
			here = pick(part(ends, func(q api.Pos) bool { return q == p || span.Less(p, q) }), n, api.Inclusive)
		}
		if got := of(words.Tail(lines, p, n, big, false)); got != after {
			t.Fatalf("Tail(%q, %v, %d, %t, false): %v, want %v", lines, p, n, big, got, after)
		}
		if got := of(words.Tail(lines, p, n, big, true)); got != here {
			t.Fatalf("Tail(%q, %v, %d, %t, true): %v, want %v", lines, p, n, big, got, here)
		}
	})
}

func TestBackAndBackTail(t *testing.T) {
	each(func(lines []string, p api.Pos, n int, big, fails bool) {
		var back, tail answer
		if !fails {
			starts, ends := model(lines, big)
			back, tail = pick(behind(starts, p), n, api.Exclusive), pick(behind(ends, p), n, api.Inclusive)
		}
		if got := of(words.Back(lines, p, n, big)); got != back {
			t.Fatalf("Back(%q, %v, %d, %t): %v, want %v", lines, p, n, big, got, back)
		}
		if got := of(words.BackTail(lines, p, n, big)); got != tail {
			t.Fatalf("BackTail(%q, %v, %d, %t): %v, want %v", lines, p, n, big, got, tail)
		}
	})
}

func TestManyWords(t *testing.T) {
	lines := append([]string{strings.Repeat("a.", 5000)}, slices.Repeat([]string{"", "b c "}, 5000)...)
	first, last := at(0, 0), at(10000, 4)
	for i, x := range []struct{ got, want answer }{
		{of(words.Next(lines, first, 24999, false, false)), to(10000, 2, api.Exclusive)},
		{of(words.Next(lines, first, 25000, false, false)), answer{}},
		{of(words.Next(lines, first, 25000, false, true)), to(10000, 4, api.Exclusive)},
		{of(words.Next(lines, first, 25001, false, true)), answer{}},
		{of(words.Tail(lines, first, 20000, false, true)), to(10000, 2, api.Inclusive)},
		{of(words.Tail(lines, first, 20000, false, false)), answer{}},
		{of(words.Back(lines, last, 25000, false)), to(0, 0, api.Exclusive)},
		{of(words.Back(lines, last, 25001, false)), answer{}},
		{of(words.BackTail(lines, last, 10001, true)), to(0, 9999, api.Inclusive)},
		{of(words.BackTail(lines, last, 10002, true)), answer{}},
	} {
		if x.got != x.want {
			t.Errorf("%d: %v, want %v", i, x.got, x.want)
		}
	}
}

func TestArgumentsAreLeftAlone(t *testing.T) {
	whole := []string{"ab.c", " ", "d", "e"}
	lines := whole[:2]
	for _, p := range around(lines) {
		// The lines behind the last one are not the argument's.
		if m, ok := words.Next(lines, p, 5, false, true); ok {
			t.Errorf("Next leads to %v from %v", m.To, p)
		}
		if m, ok := words.Tail(lines, p, 4, false, true); ok {
			t.Errorf("Tail leads to %v from %v", m.To, p)
		}
		words.Next(lines, p, 1, false, false)
		words.Back(lines, p, 1, false)
		words.BackTail(lines, p, 1, true)
	}
	for _, s := range walks(lines, true) {
		for range s {
		}
	}
	if !slices.Equal(whole, []string{"ab.c", " ", "d", "e"}) {
		t.Errorf("the arguments are now %q", whole)
	}
}

// P8.3: every word begins and ends once: the bytes from each start to its end are of one class, and all others are blanks.
func TestEveryWordBeginsAndEndsOnce(t *testing.T) {
	for lines := range all {
		for _, big := range sizes {
			starts := slices.Collect(words.Starts(lines, big))
			filled := part(starts, func(p api.Pos) bool { return lines[p.Line] != "" })
			ends := slices.Collect(words.Ends(lines, big))
			if len(filled) != len(ends) || len(starts)-len(filled) != emptyLines(lines) {
				t.Fatalf("%q, %t: starts %v, ends %v", lines, big, starts, ends)
			}
			rest := make([]string, len(lines))
			for i, line := range lines {
				rest[i] = classes(line)
			}
			for i, from := range filled {
				upTo := ends[i]
				if upTo.Line != from.Line || upTo.Col < from.Col {
					t.Fatalf("%q, %t: a word from %v to %v", lines, big, from, upTo)
				}
				row := rest[from.Line]
				word := row[from.Col : upTo.Col+1]
				if strings.Contains(word, " ") || !big && strings.Trim(word, word[:1]) != "" {
					t.Errorf("%q, %t: the word from %v to %v has other classes", lines, big, from, upTo)
				}
				rest[from.Line] = row[:from.Col] + strings.Repeat(" ", len(word)) + row[upTo.Col+1:]
			}
			if strings.Trim(strings.Join(rest, ""), " ") != "" {
				t.Errorf("%q, %t: bytes in no word: %q", lines, big, rest)
			}
		}
	}
}

func emptyLines(lines []string) int {
	n := 0
	for _, line := range lines {
		if line == "" {
			n++
		}
	}
	return n
}
