package span_test

import (
	"fmt"
	"iter"
	"math"
	"slices"
	"strings"
	"testing"

	"foolscap/api"
	"foolscap/span"
)

// texts have empty lines at their ends, beside one another, and alone; and bytes that are no letters.
var texts = [][]string{nil, {""}, {"a"}, {"", ""}, {"abc"}, {"abc", "", "de"}, {"", "ab"}, {"ab", ""}, {"a\nb", "\xc3\xa9\x00"}}

func at(line, col int) api.Pos { return api.Pos{Line: line, Col: col} }

func ranged(kind int, from, to api.Pos) api.Range {
	return api.Range{Kind: kind, From: from, To: to}
}

// around gives every position in a text, and those beyond its edges.
func around(lines []string) []api.Pos {
	cols := []int{math.MinInt, -1, 0, 1, 2, 3, 4, api.End, math.MaxInt}
	rows := []int{math.MinInt, -1}
	for i := range len(lines) + 2 {
		rows = append(rows, i)
	}
	var out []api.Pos
	for _, line := range append(rows, math.MaxInt) {
		for _, col := range cols {
			out = append(out, at(line, col))
		}
	}
	return out
}

// ranges yields the ranges of all kinds, and of none, between the positions around a text.
func ranges(lines []string) iter.Seq[api.Range] {
	return func(yield func(api.Range) bool) {
		places := around(lines)
		for _, kind := range []int{math.MinInt, -1, api.Char, api.Line, api.Block, 3, math.MaxInt} {
			for _, from := range places {
				for _, to := range places {
					if !yield(ranged(kind, from, to)) {
						return
					}
				}
			}
		}
	}
}

// P6.1: Less, Order.

func TestLessAndOrder(t *testing.T) {
	// They stand in their order.
	places := []api.Pos{
		at(math.MinInt, math.MinInt), at(math.MinInt, math.MaxInt), at(-1, 0), at(-1, 5),
		at(0, -1), at(0, 0), at(0, 1), at(0, 9), at(0, api.End), at(1, math.MinInt), at(1, 0), at(1, 9),
		at(2, -7), at(2, 0), at(math.MaxInt, math.MinInt), at(math.MaxInt, math.MaxInt),
	}
	for i, a := range places {
		for j, b := range places {
			if got := span.Less(a, b); got != (i < j) {
				t.Errorf("Less(%v, %v): %t", a, b, got)
			}
			first, second := span.Order(a, b)
			if first != places[min(i, j)] || second != places[max(i, j)] {
				t.Errorf("Order(%v, %v): %v, %v", a, b, first, second)
			}
		}
	}
}

func TestLessExample(t *testing.T) {
	if !span.Less(at(0, 9), at(1, 0)) || span.Less(at(1, 0), at(0, 9)) {
		t.Error("line 0, column 9 comes before line 1, column 0")
	}
}

// P6.1: Valid.

func TestValid(t *testing.T) {
	lines := []string{"abc", "", "defg"}
	for _, x := range []struct {
		r    api.Range
		want bool
	}{
		{ranged(api.Char, at(0, 0), at(0, 0)), true},
		{ranged(api.Char, at(0, 2), at(0, 3)), true},
		{ranged(api.Char, at(0, 3), at(0, 3)), true},
		{ranged(api.Char, at(0, 3), at(1, 0)), true},
		{ranged(api.Char, at(0, 3), at(2, 0)), true},
		{ranged(api.Char, at(1, 0), at(1, 0)), true},
		{ranged(api.Char, at(0, 0), at(2, 4)), true},
		{ranged(api.Char, at(0, 2), at(0, 1)), false},
		{ranged(api.Char, at(0, 0), at(0, 4)), false},
		{ranged(api.Char, at(0, 4), at(0, 4)), false},
		{ranged(api.Char, at(0, 4), at(2, 0)), false},
		{ranged(api.Char, at(0, -1), at(0, 1)), false},
		{ranged(api.Char, at(0, 0), at(1, 1)), false},
		{ranged(api.Char, at(0, 0), at(1, -1)), false},
		{ranged(api.Char, at(0, 0), at(2, api.End)), false},
		{ranged(api.Char, at(1, 0), at(0, 3)), false},
		{ranged(api.Char, at(0, 0), at(3, 0)), false},
		{ranged(api.Char, at(-1, 0), at(0, 0)), false},
		{ranged(api.Char, at(3, 0), at(3, 0)), false},
		// The columns do not matter for Line.
		{ranged(api.Line, at(0, 99), at(0, -99)), true},
		{ranged(api.Line, at(0, -7), at(2, 0)), true},
		{ranged(api.Line, at(2, math.MaxInt), at(2, math.MinInt)), true},
		{ranged(api.Line, at(1, 0), at(0, 0)), false},
		{ranged(api.Line, at(-1, 0), at(0, 0)), false},
		{ranged(api.Line, at(0, 0), at(3, 0)), false},
		{ranged(api.Line, at(math.MinInt, 0), at(math.MaxInt, 0)), false},
		// The lines may be shorter than the columns for Block, but the columns have an order of their own.
		{ranged(api.Block, at(0, 0), at(0, 0)), true},
		{ranged(api.Block, at(0, 1), at(2, 1)), true},
		{ranged(api.Block, at(1, 7), at(1, 9)), true},
		{ranged(api.Block, at(0, 1), at(2, math.MaxInt)), true},
		{ranged(api.Block, at(0, math.MaxInt), at(0, math.MaxInt)), true},
		{ranged(api.Block, at(0, 2), at(2, 1)), false},
		{ranged(api.Block, at(0, -1), at(2, 1)), false},
		{ranged(api.Block, at(0, -2), at(2, -1)), false},
		{ranged(api.Block, at(2, 0), at(0, 1)), false},
		{ranged(api.Block, at(0, 0), at(3, 1)), false},
		{ranged(api.Block, at(-1, 0), at(0, 1)), false},
		{ranged(-1, at(0, 0), at(0, 0)), false},
		{ranged(3, at(0, 0), at(0, 0)), false},
	} {
		if got := span.Valid(lines, x.r); got != x.want {
			t.Errorf("Valid(%v): %t", x.r, got)
		}
	}
}

func TestNoRangeOfNoLinesIsValid(t *testing.T) {
	for r := range ranges(nil) {
		if span.Valid(nil, r) || span.Valid([]string{}, r) {
			t.Errorf("Valid(%v) of no lines", r)
		}
	}
}

// P6.1, P6.2: Valid and Text of all ranges around the texts, held against the chapter's words.
func TestAllRanges(t *testing.T) {
	for _, lines := range texts {
		for r := range ranges(lines) {
			valid := asTold(lines, r)
			if got := span.Valid(lines, r); got != valid {
				t.Fatalf("Valid(%q, %v): %t", lines, r, got)
			}
			var want []string
			if valid {
				want = picked(lines, r)
			}
			if got := span.Text(lines, r); !slices.Equal(got, want) {
				t.Fatalf("Text(%q, %v): %q, want %q", lines, r, got, want)
			}
		}
	}
}

// asTold is the chapter's word for what is valid: it looks for the ends of the range among the places that there are.
func asTold(lines []string, r api.Range) bool {
	var from, to bool
	for i, line := range lines {
		last := len(line)
		from = from || r.From.Line == i && (r.Kind != api.Char || 0 <= r.From.Col && r.From.Col <= last)
		to = to || r.To.Line == i && (r.Kind != api.Char || 0 <= r.To.Col && r.To.Col <= last)
	}
	switch {
	case !from || !to || r.From.Line > r.To.Line:
		return false
	case r.Kind == api.Char:
		return r.From.Line < r.To.Line || r.From.Col <= r.To.Col
	case r.Kind == api.Block:
		return 0 <= r.From.Col && r.From.Col <= r.To.Col
	}
	return r.Kind == api.Line
}

// picked goes through the bytes of a valid range's lines, and takes those that are in the range.
func picked(lines []string, r api.Range) []string {
	var out []string
	for i := r.From.Line; i <= r.To.Line; i++ {
		var part []byte
		for col := range len(lines[i]) {
			in := true
			switch r.Kind {
			case api.Char:
				in = (i > r.From.Line || col >= r.From.Col) && (i < r.To.Line || col < r.To.Col)
			case api.Block:
				in = r.From.Col <= col && col <= r.To.Col
			}
			if in {
				part = append(part, lines[i][col])
			}
		}
		out = append(out, string(part))
	}
	return out
}

// P6.2: Text.

func TestText(t *testing.T) {
	lines := []string{"abc", "", "defg"}
	for _, x := range []struct {
		r    api.Range
		want []string
	}{
		{ranged(api.Char, at(0, 1), at(0, 3)), []string{"bc"}},
		{ranged(api.Char, at(0, 1), at(0, 1)), []string{""}},
		{ranged(api.Char, at(0, 1), at(2, 2)), []string{"bc", "", "de"}},
		{ranged(api.Char, at(0, 3), at(1, 0)), []string{"", ""}},
		{ranged(api.Char, at(1, 0), at(2, 0)), []string{"", ""}},
		{ranged(api.Char, at(0, 2), at(0, 1)), nil},
		{ranged(api.Line, at(0, 2), at(1, 0)), []string{"abc", ""}},
		{ranged(api.Line, at(2, 2), at(2, 1)), []string{"defg"}},
		{ranged(api.Line, at(2, 0), at(1, 0)), nil},
		{ranged(api.Block, at(0, 1), at(2, 2)), []string{"bc", "", "ef"}},
		{ranged(api.Block, at(0, 3), at(2, 9)), []string{"", "", "g"}},
		{ranged(api.Block, at(0, 0), at(2, 0)), []string{"a", "", "d"}},
		{ranged(api.Block, at(0, 1), at(2, math.MaxInt)), []string{"bc", "", "efg"}},
		{ranged(api.Block, at(0, math.MaxInt), at(0, math.MaxInt)), []string{""}},
		{ranged(api.Block, at(0, 2), at(2, 1)), nil},
		{ranged(3, at(0, 0), at(0, 1)), nil},
	} {
		if got := span.Text(lines, x.r); !slices.Equal(got, x.want) {
			t.Errorf("Text(%v): %q, want %q", x.r, got, x.want)
		}
	}
}

func TestTheChaptersExample(t *testing.T) {
	got := span.Text([]string{"ab", "cd"}, ranged(api.Char, at(0, 1), at(1, 1)))
	if !slices.Equal(got, []string{"b", "c"}) {
		t.Errorf("%q", got)
	}
}

func TestTextIsApart(t *testing.T) {
	for _, kind := range []int{api.Char, api.Line, api.Block} {
		whole := []string{"a", "b", "c"}
		lines := whole[:2]
		got := span.Text(lines, ranged(kind, at(0, 0), at(1, 1)))
		got[0] = "x"
		_ = append(got, "y")
		if !slices.Equal(whole, []string{"a", "b", "c"}) {
			t.Errorf("kind %d: the argument is now %q", kind, whole)
		}
		lines[1] = "z"
		if got[1] != "b" {
			t.Errorf("kind %d: the answer is now %q", kind, got)
		}
	}
}

// P6.2: Cells.

// cell is a byte and its position.
type cell struct {
	p api.Pos
	c byte
}

func cells(s iter.Seq2[api.Pos, byte]) []cell {
	var out []cell
	for p, c := range s {
		out = append(out, cell{p, c})
	}
	return out
}

func TestCells(t *testing.T) {
	for _, x := range []struct {
		lines []string
		want  []cell
	}{
		{nil, nil},
		{[]string{}, nil},
		{[]string{""}, nil},
		{[]string{"", "", ""}, nil},
		{[]string{"ab", "", "c"}, []cell{{at(0, 0), 'a'}, {at(0, 1), 'b'}, {at(2, 0), 'c'}}},
		{[]string{"", "a", ""}, []cell{{at(1, 0), 'a'}}},
		{[]string{"\n", "\xc3\xa9"}, []cell{{at(0, 0), '\n'}, {at(1, 0), 0xc3}, {at(1, 1), 0xa9}}},
	} {
		if got := cells(span.Cells(x.lines)); !slices.Equal(got, x.want) {
			t.Errorf("Cells(%q): %v, want %v", x.lines, got, x.want)
		}
	}
}

func TestCellsAreAllOfTheText(t *testing.T) {
	for _, lines := range append(slices.Clone(texts), []string{strings.Repeat("x", api.MaxBytes), "", "y"}) {
		parts := make([][]byte, len(lines))
		before := at(-1, 0)
		for p, c := range span.Cells(lines) {
			if !span.Less(before, p) || p.Col != len(parts[p.Line]) {
				t.Fatalf("Cells(%.20q): %v behind %v", lines, p, before)
			}
			parts[p.Line] = append(parts[p.Line], c)
			before = p
		}
		for i, line := range lines {
			if string(parts[i]) != line {
				t.Errorf("Cells(%.20q): line %d is %.20q", lines, i, parts[i])
			}
		}
	}
}

func TestConsumersStopAndBeginAgain(t *testing.T) {
	s := span.Cells([]string{"ab", "", "c", "d"})
	full := cells(s)
	for n := 1; n <= len(full); n++ {
		var got []cell
		// Called by hand, so that a yield behind the last one is seen as well.
		s(func(p api.Pos, c byte) bool {
			got = append(got, cell{p, c})
			return len(got) < n
		})
		if !slices.Equal(got, full[:n]) {
			t.Errorf("stopped at %d: %v", n, got)
		}
	}
	if again := cells(s); !slices.Equal(again, full) {
		t.Errorf("once more: %v, want %v", again, full)
	}
}

func TestWalksWithinOneAnother(t *testing.T) {
	s := span.Cells([]string{"ab", "c"})
	var got strings.Builder
	for p, c := range s {
		for q, d := range s {
			if q == p {
				break
			}
			fmt.Fprintf(&got, "%c%c ", c, d)
		}
	}
	if got.String() != "ba ca cb " {
		t.Errorf("%q", got.String())
	}
}

// Cells does not keep its argument: what the caller does with it afterwards is not seen.
func TestCellsAreApart(t *testing.T) {
	whole := []string{"ab", "c", "d"}
	s := span.Cells(whole[:2])
	want := cells(s)
	whole[0] = ""
	whole[1] = "xyz"
	if got := cells(s); !slices.Equal(got, want) {
		t.Errorf("after a change of the argument: %v, want %v", got, want)
	}
	for p := range s {
		whole[p.Line] = "!"
	}
	if got := cells(s); !slices.Equal(got, want) {
		t.Errorf("after a change during a walk: %v, want %v", got, want)
	}
	if whole[2] != "d" {
		t.Errorf("the argument's memory is now %q", whole)
	}
}

// P6.3: a range determines what an operator works on: its text is there where a range is valid, and nowhere else.
func TestAValidRangeHasALineForEachOfItsLines(t *testing.T) {
	for _, lines := range texts {
		for r := range ranges(lines) {
			want := 0
			if span.Valid(lines, r) {
				want = r.To.Line - r.From.Line + 1
			}
			if got := span.Text(lines, r); len(got) != want {
				t.Fatalf("Text(%q, %v): %q, want %d lines", lines, r, got, want)
			}
		}
	}
}
