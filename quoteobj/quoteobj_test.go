package quoteobj_test

import (
	"fmt"
	"iter"
	"math"
	"slices"
	"strings"
	"testing"

	"foolscap/api"
	"foolscap/quoteobj"
)

// special lines have quotation marks of several kinds, blanks of both kinds, and what other programs would take for a blank or an escaped mark.
var special = []string{
	`a "bc"  d "e"`, `a "b" c`, `a"b"c"`, `"a\"b" "c"`, `'a"b'c"d'`, "\t \"a\"\t \t\"b\" ", " \t\"\" \t", "\"a\"\v\"b\"", "\v\"a\"\f",
	"\"\xff\"\x00\"", "a\n\"b\r\"\n", "\"a\"\u00a0\"b\"", "\xa0\"b\"\x85", "``a`` `b`", strings.Repeat("\"", 9),
}

var quotes = []byte{'"', '\'', '`', 'a', ' ', '\t', '\\', 0, 0xff, '\n'}

func at(line, col int) api.Pos { return api.Pos{Line: line, Col: col} }

// all yields the special lines, and all lines of at most seven bytes over a quotation mark, a blank and another byte.
func all(yield func(string) bool) {
	for _, line := range special {
		if !yield(line) {
			return
		}
	}
	lines := []string{""}
	for i := 0; i < len(lines); i++ {
		if !yield(lines[i]) {
			return
		}
		for _, c := range "\"a " {
			if len(lines[i]) < 7 {
				lines = append(lines, lines[i]+string(c))
			}
		}
	}
}

// model gives the indices of both occurrences of each pair of a line.
func model(line string, q byte) [][2]int {
	var places []int
	for i := range len(line) {
		if line[i] == q {
			places = append(places, i)
		}
	}
	var out [][2]int
	for i := 0; i+1 < len(places); i += 2 {
		out = append(out, [2]int{places[i], places[i+1]})
	}
	return out
}

// answer is what a function of an object answers.
type answer struct {
	r  api.Range
	ok bool
}

func of(r api.Range, ok bool) answer { return answer{r, ok} }

// cols is the answer of columns of a line.
func cols(line, from, to int) answer {
	return answer{api.Range{Kind: api.Char, From: at(line, from), To: at(line, to)}, true}
}

// modelObjects says the chapter's words of Inner and Around, of a line that stands alone.
func modelObjects(line string, col int, q byte) (inner, around answer) {
	if col < 0 || col >= max(1, len(line)) {
		return
	}
	for _, x := range model(line, q) {
		if x[1] < col {
			continue
		}
		ahead, behind := line[:x[0]], line[x[1]+1:]
		from, to := x[0], len(line)-len(strings.TrimLeft(behind, " \t"))
		if to == x[1]+1 {
			from = len(strings.TrimRight(ahead, " \t"))
		}
		return cols(0, x[0]+1, x[1]), cols(0, from, to)
	}
	return
}

// P16.1: Pairs.

func told(s iter.Seq2[int, int]) string {
	var out []string
	for first, second := range s {
		out = append(out, fmt.Sprintf("%d %d", first, second))
	}
	return strings.Join(out, ", ")
}

func TestPairsExamples(t *testing.T) {
	for _, x := range []struct {
		line string
		q    byte
		want string
	}{
		{`a"b"c"`, '"', "1 3"},
		{`a "bc"  d "e"`, '"', "2 5, 10 12"},
		{`"a" "b"`, '"', "0 2, 4 6"},
		{`""`, '"', "0 1"},
		{`"""`, '"', "0 1"},
		{`""""`, '"', "0 1, 2 3"},
		{`"`, '"', ""},
		{``, '"', ""},
		{`a`, '"', ""},
		{`'a'`, '"', ""},
		// Other marks and a backslash don't matter.
		{`'a"b'c"d'`, '"', "2 6"},
		{`'a"b'c"d'`, '\'', "0 4"},
		{`"a\"b" "c"`, '"', "0 3, 5 7"},
		// Any byte may be the mark.
		{"abab", 'b', "1 3"},
		{" a b ", ' ', "0 2"},
		{"\xff\x00\xff\x00", 0xff, "0 2"},
		{"\xff\x00\xff\x00", 0, "1 3"},
	} {
		if got := told(quoteobj.Pairs(x.line, x.q)); got != x.want {
			t.Errorf("Pairs(%q, %q): %q, want %q", x.line, x.q, got, x.want)
		}
	}
}

func checkPairs(t *testing.T, line string, q byte) {
	t.Helper()
	var want []string
	for _, x := range model(line, q) {
		want = append(want, fmt.Sprintf("%d %d", x[0], x[1]))
	}
	if got := told(quoteobj.Pairs(line, q)); got != strings.Join(want, ", ") {
		t.Fatalf("Pairs(%q, %q): %q, want %q", line, q, got, want)
	}
}

func TestPairs(t *testing.T) {
	for line := range all {
		for _, q := range quotes {
			checkPairs(t, line, q)
		}
	}
}

func TestPairsOfAllBytes(t *testing.T) {
	for a := range 256 {
		for b := range 256 {
			checkPairs(t, string([]byte{byte(a), byte(b), byte(a), byte(b), byte(b)}), byte(a))
		}
	}
}

func TestPairsStopWithTheConsumer(t *testing.T) {
	line := strings.Repeat("a\"", 9)
	whole := strings.Split(told(quoteobj.Pairs(line, '"')), ", ")
	if len(whole) != 4 {
		t.Fatalf("%q", whole)
	}
	for n := range len(whole) {
		var got []string
		// To yield again after the consumer stops would panic.
		for first, second := range quoteobj.Pairs(line, '"') {
			got = append(got, fmt.Sprintf("%d %d", first, second))
			if len(got) == n+1 {
				break
			}
		}
		if !slices.Equal(got, whole[:n+1]) {
			t.Errorf("stopped at %d: %v, want %v", n+1, got, whole[:n+1])
		}
	}
}

func TestPairsBeginAgain(t *testing.T) {
	s := quoteobj.Pairs(`"a" "b" "`, '"')
	for range s {
		break
	}
	n := 0
	for range s {
		n++
		if got := told(s); got != "0 2, 4 6" {
			t.Errorf("%q", got)
		}
	}
	if n != 2 {
		t.Errorf("%d pairs", n)
	}
}

// P16.1: Inner and Around.

func TestInnerExamples(t *testing.T) {
	l := []string{`a "bc"  d "e"`, `  ''`, ``, `a "b" c`, `"a"b"c"`, `"a`}
	for _, x := range []struct {
		p    api.Pos
		q    byte
		want answer
	}{
		{at(0, 0), '"', cols(0, 3, 5)},
		{at(0, 2), '"', cols(0, 3, 5)},
		{at(0, 3), '"', cols(0, 3, 5)},
		{at(0, 5), '"', cols(0, 3, 5)},
		// Between two pairs, the next one counts.
		{at(0, 6), '"', cols(0, 11, 12)},
		{at(0, 12), '"', cols(0, 11, 12)},
		{at(3, 0), '"', cols(3, 3, 4)},
		{at(3, 4), '"', cols(3, 3, 4)},
		// Nothing stands between the marks: that is an empty range.
		{at(1, 0), '\'', cols(1, 3, 3)},
		{at(1, 3), '\'', cols(1, 3, 3)},
		// The pair before p does not count, nor one of the next line.
		{at(3, 5), '"', answer{}},
		{at(3, 6), '"', answer{}},
		{at(0, 0), '\'', answer{}},
		{at(2, 0), '"', answer{}},
		{at(2, 0), 0, answer{}},
		{at(5, 0), '"', answer{}},
		{at(5, 1), '"', answer{}},
	} {
		if got := of(quoteobj.Inner(l, x.p, x.q)); got != x.want {
			t.Errorf("Inner from %v, %q: %v, want %v", x.p, x.q, got, x.want)
		}
	}
}

func TestAroundExamples(t *testing.T) {
	l := []string{`a "bc"  d "e"`, `  ''`, ``, `x'y'`, "'a' \t", " 'b'c", `"a" "b" "c"`}
	for _, x := range []struct {
		p    api.Pos
		q    byte
		want answer
	}{
		{at(0, 0), '"', cols(0, 2, 8)},
		{at(0, 5), '"', cols(0, 2, 8)},
		// No blanks behind it, so those before it.
		{at(0, 6), '"', cols(0, 9, 13)},
		{at(0, 12), '"', cols(0, 9, 13)},
		{at(1, 0), '\'', cols(1, 0, 4)},
		{at(5, 0), '\'', cols(5, 0, 4)},
		// No blanks on either side.
		{at(3, 0), '\'', cols(3, 1, 4)},
		{at(4, 0), '\'', cols(4, 0, 5)},
		{at(6, 0), '"', cols(6, 0, 4)},
		// Blanks on both sides: only those behind it.
		{at(6, 3), '"', cols(6, 4, 8)},
		{at(6, 8), '"', cols(6, 7, 11)},
		// A mark that is a blank itself is one of those beside the pair.
		{at(1, 0), ' ', cols(1, 0, 2)},
		{at(0, 0), ' ', cols(0, 1, 8)},
		{at(0, 7), ' ', cols(0, 6, 10)},
		{at(2, 0), '"', answer{}},
		{at(3, 0), '"', answer{}},
		{at(5, 4), '\'', answer{}},
	} {
		if got := of(quoteobj.Around(l, x.p, x.q)); got != x.want {
			t.Errorf("Around from %v, %q: %v, want %v", x.p, x.q, got, x.want)
		}
	}
}

// columns gives every column of a line, and those beyond its edges.
func columns(line string) []int {
	out := []int{math.MinInt, -1, api.End, math.MaxInt}
	for col := range len(line) + 2 {
		out = append(out, col)
	}
	return out
}

func TestObjects(t *testing.T) {
	for line := range all {
		lines := []string{line}
		for _, col := range columns(line) {
			for _, q := range quotes {
				inner, around := modelObjects(line, col, q)
				if got := of(quoteobj.Inner(lines, at(0, col), q)); got != inner {
					t.Fatalf("Inner(%q, %d, %q): %v, want %v", line, col, q, got, inner)
				}
				if got := of(quoteobj.Around(lines, at(0, col), q)); got != around {
					t.Fatalf("Around(%q, %d, %q): %v, want %v", line, col, q, got, around)
				}
			}
		}
	}
}

// Only spaces and tabs are blanks.
func TestAroundOfAllBytes(t *testing.T) {
	for c := range 256 {
		for _, line := range []string{"\"\"" + string([]byte{byte(c)}), string([]byte{byte(c)}) + "\"\""} {
			_, want := modelObjects(line, 0, '"')
			if got := of(quoteobj.Around([]string{line}, at(0, 0), '"')); got != want {
				t.Errorf("Around(%q): %v, want %v", line, got, want)
			}
		}
	}
}

// The lines beside that of p don't matter.
func TestObjectsOfOneLine(t *testing.T) {
	for _, line := range special {
		for _, beside := range []string{"", " ", "\"", "\"a\"", " a\" ", "\" \" \""} {
			lines := []string{beside, "", line, beside}
			for _, col := range columns(line) {
				inner, around := modelObjects(line, col, '"')
				for _, want := range []*answer{&inner, &around} {
					if want.ok {
						want.r.From.Line, want.r.To.Line = 2, 2
					}
				}
				if got := of(quoteobj.Inner(lines, at(2, col), '"')); got != inner {
					t.Errorf("Inner(%q, %d): %v, want %v", lines, col, got, inner)
				}
				if got := of(quoteobj.Around(lines, at(2, col), '"')); got != around {
					t.Errorf("Around(%q, %d): %v, want %v", lines, col, got, around)
				}
			}
		}
	}
}

// Where p is no byte's position, there is no object.
func TestObjectsOfNoPosition(t *testing.T) {
	for _, lines := range [][]string{nil, {}, {""}, {"", ""}, {`"a"`, "", ` "a"`}, {`"`, `"`}} {
		places := []api.Pos{at(-1, 0), at(math.MinInt, 0), at(len(lines), 0), at(math.MaxInt, 0), at(math.MaxInt, math.MinInt)}
		for i, line := range lines {
			places = append(places, at(i, -1), at(i, math.MinInt), at(i, len(line)), at(i, len(line)+1), at(i, api.End), at(i, math.MaxInt))
		}
		for _, p := range places {
			for _, q := range quotes {
				if got := of(quoteobj.Inner(lines, p, q)); got != (answer{}) {
					t.Errorf("Inner(%q, %v, %q): %v", lines, p, q, got)
				}
				if got := of(quoteobj.Around(lines, p, q)); got != (answer{}) {
					t.Errorf("Around(%q, %v, %q): %v", lines, p, q, got)
				}
			}
		}
	}
}

func TestManyPairs(t *testing.T) {
	l := []string{strings.Repeat(`"a" `, 20000) + `"b"`}
	for i, x := range []struct{ got, want answer }{
		{of(quoteobj.Inner(l, at(0, 0), '"')), cols(0, 1, 2)},
		{of(quoteobj.Inner(l, at(0, 79999), '"')), cols(0, 80001, 80002)},
		{of(quoteobj.Around(l, at(0, 79998), '"')), cols(0, 79996, 80000)},
		{of(quoteobj.Around(l, at(0, 80002), '"')), cols(0, 79999, 80003)},
		{of(quoteobj.Inner(l, at(0, 80000), 'b')), answer{}},
	} {
		if x.got != x.want {
			t.Errorf("%d: %v, want %v", i, x.got, x.want)
		}
	}
}

func TestArgumentsAreLeftAlone(t *testing.T) {
	whole := []string{`"a" b`, "", `"c"`, `"d"`}
	lines := whole[:2]
	for _, p := range []api.Pos{at(0, 0), at(0, 4), at(1, 0), at(2, 0), at(3, 0)} {
		inner, around := of(quoteobj.Inner(lines, p, '"')), of(quoteobj.Around(lines, p, '"'))
		// The lines behind the last one are not the argument's.
		if p.Line > 0 && (inner.ok || around.ok) {
			t.Errorf("%v: %v, %v", p, inner, around)
		}
	}
	if !slices.Equal(whole, []string{`"a" b`, "", `"c"`, `"d"`}) {
		t.Errorf("the arguments are now %q", whole)
	}
}

// P16.2: which marks are a pair hangs on the line's beginning, not on where p is.
func TestPairsCountFromTheBeginning(t *testing.T) {
	line := `"a" b "c" d "e`
	lines := []string{line}
	for col, want := range map[int]answer{
		0: cols(0, 1, 2), 2: cols(0, 1, 2),
		// Between two pairs, the marks on both sides are no pair.
		3: cols(0, 7, 8), 4: cols(0, 7, 8), 8: cols(0, 7, 8),
		9: {}, 12: {}, 13: {},
	} {
		if got := of(quoteobj.Inner(lines, at(0, col), '"')); got != want {
			t.Errorf("Inner from %d: %v, want %v", col, got, want)
		}
	}
	// An even number of marks stands before each pair, and all but an odd one at the end are in pairs.
	for line := range all {
		marks := 0
		for first, second := range quoteobj.Pairs(line, '"') {
			if n := strings.Count(line[:first], `"`); n != marks || strings.Count(line[first:second], `"`) != 1 {
				t.Errorf("%q: a pair from %d to %d", line, first, second)
			}
			marks += 2
		}
		if n := strings.Count(line, `"`); marks != n-n%2 {
			t.Errorf("%q: %d of %d marks are in pairs", line, marks, n)
		}
	}
}
