package chars_test

import (
	"math"
	"slices"
	"strings"
	"testing"

	"foolscap/api"
	"foolscap/chars"
)

// texts have empty lines at their ends, beside one another, and alone; lines of blanks; and bytes that are no letters.
var texts = [][]string{
	nil, {""}, {"a"}, {" "}, {"", ""}, {"  abc", "", "x"}, {"abcabca", ""}, {"abcb"}, {"", "aa a", " a"},
	{"\t \t", "   ", "aaaa"}, {"\x00\xff\x00", "\xc3\xa9\xc3", "a\nb\ra"},
}

// counts are below, at and above those that lines of some bytes can have.
var counts = []int{math.MinInt, -1, 0, 1, 2, 3, 4, 5, 6, 7, 8, 9, 9999, api.End - 1, api.End, api.End + 1, 1 << 62, math.MaxInt}

func at(line, col int) api.Pos { return api.Pos{Line: line, Col: col} }

// to is what a motion answers that the chapter says nothing else of.
func to(line, col int) api.Move {
	return api.Move{To: at(line, col), Way: api.Exclusive, Want: -1}
}

// around gives every position in a text, and those beyond its edges.
func around(lines []string) []api.Pos {
	rows, most := []int{math.MinInt, -1}, 0
	for i := range len(lines) + 2 {
		rows = append(rows, i)
	}
	for _, line := range lines {
		most = max(most, len(line))
	}
	cols := []int{math.MinInt, -1}
	for i := range most + 3 {
		cols = append(cols, i)
	}
	var out []api.Pos
	for _, line := range append(rows, math.MaxInt) {
		for _, col := range append(cols, api.End, math.MaxInt) {
			out = append(out, at(line, col))
		}
	}
	return out
}

// isPosition tells whether p is a position of lines, by the words of the chapter.
func isPosition(lines []string, p api.Pos) bool {
	return p.Line >= 0 && p.Line < len(lines) && p.Col >= 0 && p.Col <= len(lines[p.Line])
}

// lastOf is the column of a line's last byte.
func lastOf(line string) int {
	if line == "" {
		return 0
	}
	return len(line) - 1
}

// answer is what a motion answers.
type answer struct {
	move api.Move
	ok   bool
}

func of(m api.Move, ok bool) answer { return answer{m, ok} }

// each calls f for all positions in and around the texts; fails tells that p is no position.
func each(f func(lines []string, p api.Pos, fails bool)) {
	for _, lines := range texts {
		for _, p := range around(lines) {
			f(lines, p, !isPosition(lines, p))
		}
	}
}

// eachCount calls f for all positions in and around the texts and all counts; fails tells that p is no position, or n no count.
func eachCount(f func(lines []string, p api.Pos, n int, fails bool)) {
	each(func(lines []string, p api.Pos, fails bool) {
		for _, n := range counts {
			f(lines, p, n, fails || n < 1)
		}
	})
}

// P7.1.

func TestExamples(t *testing.T) {
	l := []string{"  abc"}
	for _, x := range []struct {
		name      string
		got, want answer
	}{
		{"Left by 99", of(chars.Left(l, at(0, 3), 99)), answer{to(0, 0), true}},
		{"Left by 2", of(chars.Left(l, at(0, 3), 2)), answer{to(0, 1), true}},
		{"Left from 0", of(chars.Left(l, at(0, 0), 1)), answer{}},
		{"Right from 4", of(chars.Right(l, at(0, 4), 1, false)), answer{}},
		{"Right from 4, past", of(chars.Right(l, at(0, 4), 1, true)), answer{to(0, 5), true}},
		{"Right by 2", of(chars.Right(l, at(0, 1), 2, false)), answer{to(0, 3), true}},
		{"Zero", of(chars.Zero(l, at(0, 3))), answer{to(0, 0), true}},
		{"First", of(chars.First(l, at(0, 0))), answer{to(0, 2), true}},
		{"Last", of(chars.Last(l, at(0, 0), 1)), answer{api.Move{To: at(0, 4), Way: api.Inclusive, Want: api.End}, true}},
		{"Column 99", of(chars.Column(l, at(0, 0), 99)), answer{api.Move{To: at(0, 4), Want: 98}, true}},
		{"Column 3", of(chars.Column(l, at(0, 0), 3)), answer{api.Move{To: at(0, 2), Want: 2}, true}},
	} {
		if x.got != x.want {
			t.Errorf("%s: %v, want %v", x.name, x.got, x.want)
		}
	}
}

func TestLeft(t *testing.T) {
	eachCount(func(lines []string, p api.Pos, n int, fails bool) {
		var want answer
		if !fails && p.Col > 0 {
			col := p.Col
			for i := 0; i < n && col > 0; i++ {
				col--
			}
			want = answer{to(p.Line, col), true}
		}
		if got := of(chars.Left(lines, p, n)); got != want {
			t.Fatalf("Left(%q, %v, %d): %v, want %v", lines, p, n, got, want)
		}
	})
}

func TestRight(t *testing.T) {
	eachCount(func(lines []string, p api.Pos, n int, fails bool) {
		for _, past := range []bool{false, true} {
			var want answer
			if !fails {
				most := lastOf(lines[p.Line])
				if past {
					most = len(lines[p.Line])
				}
				col := p.Col
				for i := 0; i < n && col < most; i++ {
					col++
				}
				if col > p.Col {
					want = answer{to(p.Line, col), true}
				}
			}
			if got := of(chars.Right(lines, p, n, past)); got != want {
				t.Fatalf("Right(%q, %v, %d, %t): %v, want %v", lines, p, n, past, got, want)
			}
		}
	})
}

func TestZeroAndFirst(t *testing.T) {
	each(func(lines []string, p api.Pos, fails bool) {
		var zero, first answer
		if !fails {
			line := lines[p.Line]
			zero = answer{to(p.Line, 0), true}
			blanks := len(line) - len(strings.TrimLeft(line, " \t"))
			first = answer{to(p.Line, min(blanks, lastOf(line))), true}
		}
		if got := of(chars.Zero(lines, p)); got != zero {
			t.Errorf("Zero(%q, %v): %v, want %v", lines, p, got, zero)
		}
		if got := of(chars.First(lines, p)); got != first {
			t.Errorf("First(%q, %v): %v, want %v", lines, p, got, first)
		}
	})
}

func TestLast(t *testing.T) {
	eachCount(func(lines []string, p api.Pos, n int, fails bool) {
		var want answer
		if !fails && n <= len(lines[p.Line:]) {
			line := lines[p.Line:][n-1]
			want = answer{api.Move{To: at(p.Line+n-1, lastOf(line)), Way: api.Inclusive, Want: api.End}, true}
		}
		if got := of(chars.Last(lines, p, n)); got != want {
			t.Fatalf("Last(%q, %v, %d): %v, want %v", lines, p, n, got, want)
		}
	})
}

func TestColumn(t *testing.T) {
	eachCount(func(lines []string, p api.Pos, n int, fails bool) {
		var want answer
		if !fails {
			// A count beyond 2^30 counts as 2^30.
			wanted := min(n, 1<<30) - 1
			want = answer{api.Move{To: at(p.Line, min(wanted, lastOf(lines[p.Line]))), Way: api.Exclusive, Want: wanted}, true}
		}
		if got := of(chars.Column(lines, p, n)); got != want {
			t.Fatalf("Column(%q, %v, %d): %v, want %v", lines, p, n, got, want)
		}
	})
}

// P7.2.

func TestSeekExamples(t *testing.T) {
	inclusive := func(col int) answer {
		return answer{api.Move{To: at(0, col), Way: api.Inclusive, Want: -1}, true}
	}
	for _, x := range []struct {
		line   string
		col    int
		key, c byte
		n      int
		want   answer
	}{
		{"abcabca", 0, 't', 'a', 1, inclusive(2)},
		{"abcb", 0, 'f', 'b', 2, inclusive(3)},
		{"abcb", 0, 'f', 'b', 1, inclusive(1)},
		{"abcb", 0, 'f', 'b', 3, answer{}},
		// The byte at p itself is not searched.
		{"abcb", 1, 'f', 'b', 1, inclusive(3)},
		{"abcb", 3, 'F', 'b', 1, answer{to(0, 1), true}},
		{"abcb", 3, 'f', 'b', 1, answer{}},
		{"abcb", 1, 'F', 'b', 1, answer{}},
		// Neighbours: t and T stay where they are.
		{"abcb", 0, 't', 'b', 1, inclusive(0)},
		{"abcb", 1, 'T', 'a', 1, answer{to(0, 1), true}},
		{"aaaa", 0, 't', 'a', 3, inclusive(2)},
		{"aaaa", 3, 'T', 'a', 3, answer{to(0, 1), true}},
		{"aaaa", 3, 'F', 'a', 3, answer{to(0, 0), true}},
		{"aaaa", 3, 'F', 'a', 4, answer{}},
		// From the place behind the last byte.
		{"abcb", 4, 'F', 'b', 1, answer{to(0, 3), true}},
		{"abcb", 4, 'T', 'b', 1, answer{to(0, 4), true}},
		{"abcb", 4, 'f', 'b', 1, answer{}},
		// Other keys.
		{"abcb", 0, 'g', 'b', 1, answer{}},
		{"abcb", 0, ';', 'b', 1, answer{}},
		{"abcb", 0, 'f' + 128, 'b', 1, answer{}},
		{"abcb", 0, 0, 'b', 1, answer{}},
	} {
		if got := of(chars.Seek([]string{x.line}, at(0, x.col), x.key, x.c, x.n)); got != x.want {
			t.Errorf("%q from %d, %q %q %d: %v, want %v", x.line, x.col, x.key, x.c, x.n, got, x.want)
		}
	}
}

// found gives the columns at which Seek may find c, the nearest one first.
func found(line string, col int, key, c byte) []int {
	var behind, ahead []int
	for i := range len(line) {
		switch {
		case line[i] != c:
		case i < col:
			ahead = append([]int{i}, ahead...)
		case i > col:
			behind = append(behind, i)
		}
	}
	switch key {
	case 'f', 't':
		return behind
	case 'F', 'T':
		return ahead
	}
	return nil
}

func TestSeek(t *testing.T) {
	aside := map[byte]int{'t': -1, 'T': 1}
	eachCount(func(lines []string, p api.Pos, n int, fails bool) {
		for _, key := range []byte("fFtTgh;,\x00\xe6") {
			for _, c := range []byte("ab z\n\x00\xc3\xff") {
				var want answer
				if !fails {
					if cols := found(lines[p.Line], p.Col, key, c); n <= len(cols) {
						want = answer{to(p.Line, cols[n-1]+aside[key]), true}
						if key == 'f' || key == 't' {
							want.move.Way = api.Inclusive
						}
					}
				}
				if got := of(chars.Seek(lines, p, key, c, n)); got != want {
					t.Fatalf("Seek(%q, %v, %q, %q, %d): %v, want %v", lines, p, key, c, n, got, want)
				}
			}
		}
	})
}

// A seek does not leave the line of p.
func TestSeekKeepsToTheLine(t *testing.T) {
	lines := []string{"xa", "b", "ax"}
	for _, key := range []byte("fFtT") {
		for _, c := range []byte("ax\n") {
			if m, ok := chars.Seek(lines, at(1, 0), key, c, 1); ok {
				t.Errorf("%q %q: %v", key, c, m)
			}
		}
	}
}

func TestLongLines(t *testing.T) {
	line := strings.Repeat("ab", 5000)
	lines := []string{line, ""}
	for _, x := range []struct {
		got  answer
		want api.Pos
	}{
		{of(chars.Left(lines, at(0, 10000), 9999)), at(0, 1)},
		{of(chars.Right(lines, at(0, 0), 9999, false)), at(0, 9999)},
		{of(chars.Right(lines, at(0, 0), math.MaxInt, true)), at(0, 10000)},
		{of(chars.Last(lines, at(0, 3), 1)), at(0, 9999)},
		{of(chars.Column(lines, at(0, 3), 9998)), at(0, 9997)},
		{of(chars.Seek(lines, at(0, 0), 'f', 'b', 5000)), at(0, 9999)},
		{of(chars.Seek(lines, at(0, 10000), 'F', 'a', 5000)), at(0, 0)},
	} {
		if !x.got.ok || x.got.move.To != x.want {
			t.Errorf("%v, want %v", x.got, x.want)
		}
	}
}

// P7.3: a motion that fails moves nothing: it has no place to go to, and leaves the lines alone.
func TestFailedMotionsMoveNothing(t *testing.T) {
	eachCount(func(lines []string, p api.Pos, n int, _ bool) {
		for i, x := range []answer{
			of(chars.Left(lines, p, n)), of(chars.Right(lines, p, n, false)), of(chars.Right(lines, p, n, true)),
			of(chars.Zero(lines, p)), of(chars.First(lines, p)), of(chars.Last(lines, p, n)), of(chars.Column(lines, p, n)),
			of(chars.Seek(lines, p, 'f', 'a', n)), of(chars.Seek(lines, p, 'T', 'a', n)), of(chars.Seek(lines, p, 'x', 'a', n)),
		} {
			if !x.ok && x.move != (api.Move{}) {
				t.Fatalf("%d: %q, %v, %d: fails with %v", i, lines, p, n, x.move)
			}
			if x.ok && !isPosition(lines, x.move.To) {
				t.Fatalf("%d: %q, %v, %d: %v is no position", i, lines, p, n, x.move.To)
			}
		}
	})
}

func TestArgumentsAreLeftAlone(t *testing.T) {
	whole := []string{"  ab", "b", "c"}
	lines, p := whole[:2], at(0, 1)
	for range 2 {
		chars.Left(lines, p, 1)
		chars.Right(lines, p, 9, true)
		chars.Zero(lines, p)
		chars.First(lines, p)
		// The line behind the last one is not the argument's.
		if _, ok := chars.Last(lines, p, 3); ok {
			t.Error("Last leads out of the lines")
		}
		chars.Column(lines, p, 9)
		chars.Seek(lines, p, 't', 'b', 1)
	}
	if !slices.Equal(whole, []string{"  ab", "b", "c"}) {
		t.Errorf("the arguments are now %q", whole)
	}
}
