package vert_test

import (
	"math"
	"slices"
	"strconv"
	"strings"
	"testing"

	"foolscap/api"
	"foolscap/vert"
)

// texts have no lines; empty lines at their ends, beside one another, and alone; lines of blanks; and bytes that are no letters.
var texts = [][]string{
	nil, {""}, {"a"}, {" "}, {"", ""}, {"abc", "", "  xy"}, {"abc", "a", "abc"}, {"", "aa a", "\t\ta", ""},
	{"\t \t", "   ", "\t", "aaaa"}, {"\x00\xff\x00", " \xc3\xa9\xc3", "a\nb\ra", "\n"}, numbered(7),
}

// counts are below, at and above those that lead out of the texts.
var counts = []int{math.MinInt, math.MinInt + 1, -2, -1, 0, 1, 2, 3, 4, 5, 6, 7, 8, 9, 10, 11, 12, 9999, api.End, api.End + 1, 1 << 62, math.MaxInt}

// wants are around the columns of the lines, and around 0 and End.
var wants = []int{math.MinInt, -7, -1, 0, 1, 2, 3, 4, 5, api.End - 1, api.End, api.End + 1, math.MaxInt}

func at(line, col int) api.Pos { return api.Pos{Line: line, Col: col} }

// numbered gives a text of so many lines, each with as many blanks as its number divided by 3 leaves.
func numbered(count int) []string {
	var out []string
	for i := range count {
		out = append(out, strings.Repeat(" ", i%3)+strconv.Itoa(i))
	}
	return out
}

// around gives every position in a text, and those beyond its edges.
func around(lines []string) []api.Pos {
	out := []api.Pos{at(math.MinInt, 0), at(math.MaxInt, 0), at(-1, 0), at(len(lines), 0), at(len(lines)+1, 0)}
	for i, line := range lines {
		for _, col := range []int{math.MinInt, -1, len(line) + 1, api.End, math.MaxInt} {
			out = append(out, at(i, col))
		}
		for col := range len(line) + 1 {
			out = append(out, at(i, col))
		}
	}
	return out
}

// isPosition tells whether p is a position of lines, by the words of the chapter.
func isPosition(lines []string, p api.Pos) bool {
	return p.Line >= 0 && p.Line < len(lines) && p.Col >= 0 && p.Col <= len(lines[p.Line])
}

// lastOf is the column of a line's last byte.
func lastOf(line string) int {
	if line == "" {
		return 0
	}
	return len(line) - 1
}

// firstOf is the column of a line's first byte that is not a blank.
func firstOf(line string) int {
	return min(len(line)-len(strings.TrimLeft(line, " \t")), lastOf(line))
}

// answer is what a motion answers.
type answer struct {
	move api.Move
	ok   bool
}

func of(m api.Move, ok bool) answer { return answer{m, ok} }

// to is the answer of a motion that does not jump; jump that of one that does.
func to(line, col, want int) answer {
	return answer{api.Move{To: at(line, col), Way: api.Linewise, Want: want}, true}
}

func jump(line, col int) answer {
	return answer{api.Move{To: at(line, col), Way: api.Linewise, Jump: true, Want: -1}, true}
}

// each calls f for all positions in and around the texts and all counts; fails tells that p is no position, or n no count.
func each(f func(lines []string, p api.Pos, n int, fails bool)) {
	for _, lines := range texts {
		for _, p := range around(lines) {
			for _, n := range counts {
				f(lines, p, n, n < 1 || !isPosition(lines, p))
			}
		}
	}
}

// walked goes line by line from one in the direction of by, and gives the line that it comes to.
func walked(lines []string, line, n, by int) (int, bool) {
	for range n {
		line += by
		if line < 0 || line >= len(lines) {
			return 0, false
		}
	}
	return line, true
}

// P9.1: Down and Up.

func TestDownAndUpExamples(t *testing.T) {
	l := []string{"abc", "", "  xy"}
	for _, x := range []struct {
		name      string
		got, want answer
	}{
		{"Down to an empty line", of(vert.Down(l, at(0, 2), 1, 2)), to(1, 0, 2)},
		{"Down by 2", of(vert.Down(l, at(0, 2), 2, 2)), to(2, 2, 2)},
		{"Down by 3", of(vert.Down(l, at(0, 2), 3, 2)), answer{}},
		{"Down by 0", of(vert.Down(l, at(0, 2), 0, 2)), answer{}},
		{"Up by 2", of(vert.Up(l, at(2, 3), 2, 3)), to(0, 2, 3)},
		{"Up by 1", of(vert.Up(l, at(2, 3), 1, 3)), to(1, 0, 3)},
		{"Up by 3", of(vert.Up(l, at(2, 3), 3, 3)), answer{}},
		{"Up by -1", of(vert.Up(l, at(1, 0), -1, 0)), answer{}},
		// What is wanted counts, not the column of p.
		{"Down from another column", of(vert.Down(l, at(0, 0), 2, 3)), to(2, 3, 3)},
		{"Up from behind the line", of(vert.Up(l, at(2, 4), 2, 1)), to(0, 1, 1)},
		// What is wanted counts as 0 or End beyond them.
		{"Down, less than 0", of(vert.Down(l, at(0, 2), 2, -1)), to(2, 0, 0)},
		{"Up, less than 0", of(vert.Up(l, at(2, 2), 2, math.MinInt)), to(0, 0, 0)},
		{"Down to the end", of(vert.Down(l, at(0, 0), 2, api.End)), to(2, 3, api.End)},
		{"Down beyond the end", of(vert.Down(l, at(0, 0), 1, api.End+1)), to(1, 0, api.End)},
		{"Up beyond the end", of(vert.Up(l, at(2, 0), 2, math.MaxInt)), to(0, 2, api.End)},
		{"Down short of the end", of(vert.Down(l, at(0, 0), 2, api.End-1)), to(2, 3, api.End-1)},
		// No positions.
		{"Down from behind the length", of(vert.Down(l, at(0, 4), 1, 0)), answer{}},
		{"Up from below the text", of(vert.Up(l, at(3, 0), 1, 0)), answer{}},
		{"Down from above the text", of(vert.Down(l, at(-1, 0), 1, 0)), answer{}},
		{"Up in no lines", of(vert.Up(nil, at(0, 0), 1, 0)), answer{}},
	} {
		if x.got != x.want {
			t.Errorf("%s: %v, want %v", x.name, x.got, x.want)
		}
	}
}

// wanted answers with the wanted column of the line that n lines lead to.
func wanted(lines []string, p api.Pos, n, by, want int) answer {
	line, ok := walked(lines, p.Line, n, by)
	if !ok {
		return answer{}
	}
	switch {
	case want < 0:
		want = 0
	case want > api.End:
		want = api.End
	}
	return to(line, min(want, lastOf(lines[line])), want)
}

func TestDownAndUp(t *testing.T) {
	each(func(lines []string, p api.Pos, n int, fails bool) {
		for _, want := range wants {
			var down, up answer
			if !fails {
				down, up = wanted(lines, p, n, 1, want), wanted(lines, p, n, -1, want)
			}
			if got := of(vert.Down(lines, p, n, want)); got != down {
				t.Fatalf("Down(%q, %v, %d, %d): %v, want %v", lines, p, n, want, got, down)
			}
			if got := of(vert.Up(lines, p, n, want)); got != up {
				t.Fatalf("Up(%q, %v, %d, %d): %v, want %v", lines, p, n, want, got, up)
			}
		}
	})
}

// P9.1: Plus, Minus and Under.

// first answers with the first byte of the line that n lines lead to.
func first(lines []string, p api.Pos, n, by int) answer {
	line, ok := walked(lines, p.Line, n, by)
	if !ok {
		return answer{}
	}
	return to(line, firstOf(lines[line]), -1)
}

func TestPlusMinusAndUnderExamples(t *testing.T) {
	l := []string{"  abc", "", " \t ", "q"}
	for _, x := range []struct {
		name      string
		got, want answer
	}{
		{"Plus", of(vert.Plus(l, at(0, 4), 1)), to(1, 0, -1)},
		{"Plus to a line of blanks", of(vert.Plus(l, at(0, 0), 2)), to(2, 2, -1)},
		{"Plus to the last line", of(vert.Plus(l, at(0, 0), 3)), to(3, 0, -1)},
		{"Plus beyond it", of(vert.Plus(l, at(0, 0), 4)), answer{}},
		{"Minus", of(vert.Minus(l, at(3, 1), 1)), to(2, 2, -1)},
		{"Minus to the first line", of(vert.Minus(l, at(3, 0), 3)), to(0, 2, -1)},
		{"Minus beyond it", of(vert.Minus(l, at(3, 0), 4)), answer{}},
		{"Under", of(vert.Under(l, at(0, 0), 1)), to(0, 2, -1)},
		{"Under from behind the first byte", of(vert.Under(l, at(0, 5), 1)), to(0, 2, -1)},
		{"Under by 4", of(vert.Under(l, at(0, 0), 4)), to(3, 0, -1)},
		{"Under by 5", of(vert.Under(l, at(0, 0), 5)), answer{}},
		{"Under in the last line", of(vert.Under(l, at(3, 0), 1)), to(3, 0, -1)},
		{"Under by 0", of(vert.Under(l, at(1, 0), 0)), answer{}},
		{"Under by the least number", of(vert.Under(l, at(1, 0), math.MinInt)), answer{}},
	} {
		if x.got != x.want {
			t.Errorf("%s: %v, want %v", x.name, x.got, x.want)
		}
	}
}

func TestPlusMinusAndUnder(t *testing.T) {
	each(func(lines []string, p api.Pos, n int, fails bool) {
		var plus, minus, under answer
		if !fails {
			plus, minus, under = first(lines, p, n, 1), first(lines, p, n, -1), first(lines, p, n-1, 1)
		}
		if got := of(vert.Plus(lines, p, n)); got != plus {
			t.Fatalf("Plus(%q, %v, %d): %v, want %v", lines, p, n, got, plus)
		}
		if got := of(vert.Minus(lines, p, n)); got != minus {
			t.Fatalf("Minus(%q, %v, %d): %v, want %v", lines, p, n, got, minus)
		}
		if got := of(vert.Under(lines, p, n)); got != under {
			t.Fatalf("Under(%q, %v, %d): %v, want %v", lines, p, n, got, under)
		}
	})
}

// P9.1: Goto.

func TestGotoExamples(t *testing.T) {
	l := []string{"abc", "", "  xy"}
	for line, want := range map[int]answer{
		0: {}, 1: jump(0, 0), 2: jump(1, 0), 3: jump(2, 2), 4: {}, -1: {}, math.MinInt: {}, math.MaxInt: {},
	} {
		if got := of(vert.Goto(l, at(2, 4), line)); got != want {
			t.Errorf("line %d: %v, want %v", line, got, want)
		}
	}
	if got := of(vert.Goto(l, at(2, 5), 1)); got != (answer{}) {
		t.Errorf("from no position: %v", got)
	}
}

func TestGoto(t *testing.T) {
	each(func(lines []string, p api.Pos, line int, _ bool) {
		var want answer
		for i := range lines {
			if i+1 == line && isPosition(lines, p) {
				want = jump(i, firstOf(lines[i]))
			}
		}
		if got := of(vert.Goto(lines, p, line)); got != want {
			t.Fatalf("Goto(%q, %v, %d): %v, want %v", lines, p, line, got, want)
		}
	})
}

// P9.2: Screen.

func TestScreenExamples(t *testing.T) {
	l := slices.Repeat([]string{" a"}, 15)
	for _, x := range []struct {
		top  int
		key  byte
		n    int
		want answer
	}{
		{2, 'M', 1, jump(6, 1)},
		{2, 'H', 1, jump(2, 1)},
		{2, 'L', 1, jump(11, 1)},
		// M leads to the middle whatever the count is.
		{2, 'M', 3, jump(6, 1)},
		{2, 'M', math.MaxInt, jump(6, 1)},
		// H and L count from the edges, at most to the other edge.
		{2, 'H', 3, jump(4, 1)},
		{2, 'L', 3, jump(9, 1)},
		{2, 'H', 10, jump(11, 1)},
		{2, 'H', 11, jump(11, 1)},
		{2, 'L', 10, jump(2, 1)},
		{2, 'L', 11, jump(2, 1)},
		{2, 'L', math.MaxInt, jump(2, 1)},
		// A window at the end of the text has fewer lines.
		{5, 'L', 1, jump(14, 1)},
		{6, 'L', 1, jump(14, 1)},
		{6, 'M', 1, jump(10, 1)},
		{11, 'M', 1, jump(12, 1)},
		{11, 'H', 9, jump(14, 1)},
		{11, 'L', 9, jump(11, 1)},
		{14, 'M', 1, jump(14, 1)},
		{14, 'H', 2, jump(14, 1)},
		// A window that would begin above the text begins with its first line, and is no shorter.
		{-1, 'H', 1, jump(0, 1)},
		{-3, 'L', 1, jump(9, 1)},
		{math.MinInt, 'M', 1, jump(4, 1)},
		// A window without lines.
		{15, 'H', 1, answer{}},
		{15, 'M', 1, answer{}},
		{16, 'L', 1, answer{}},
		{math.MaxInt, 'L', 1, answer{}},
		// No counts, and other keys.
		{2, 'H', 0, answer{}},
		{2, 'M', 0, answer{}},
		{2, 'L', math.MinInt, answer{}},
		{2, 'h', 1, answer{}},
		{2, 'K', 1, answer{}},
		{2, 'H' + 128, 1, answer{}},
		{2, 0, 1, answer{}},
	} {
		if got := of(vert.Screen(l, at(0, 0), x.top, x.key, x.n)); got != x.want {
			t.Errorf("top %d, %q %d: %v, want %v", x.top, x.key, x.n, got, x.want)
		}
	}
}

// shown answers with the line of the window that a key and a count lead to.
func shown(lines []string, top int, key byte, n int) answer {
	var window []int
	for i := range lines {
		if i >= top && len(window) < 10 {
			window = append(window, i)
		}
	}
	if len(window) == 0 {
		return answer{}
	}
	if key == 'L' {
		slices.Reverse(window)
	}
	line := window[min(n, len(window))-1]
	switch key {
	case 'M':
		line = window[(len(window)-1)/2]
	case 'H', 'L':
	default:
		return answer{}
	}
	return jump(line, firstOf(lines[line]))
}

func checkScreen(t *testing.T, lines []string, p api.Pos, tops []int) {
	t.Helper()
	for _, top := range tops {
		for _, key := range []byte("HMLhmlK\x00\xc8") {
			for _, n := range counts {
				var want answer
				if n >= 1 && isPosition(lines, p) {
					want = shown(lines, top, key, n)
				}
				if got := of(vert.Screen(lines, p, top, key, n)); got != want {
					t.Fatalf("Screen(%q, %v, %d, %q, %d): %v, want %v", lines, p, top, key, n, got, want)
				}
			}
		}
	}
}

func TestScreenFromEverywhere(t *testing.T) {
	for _, lines := range texts {
		for _, p := range around(lines) {
			checkScreen(t, lines, p, []int{math.MinInt, -1, 0, 1, 3, 9999, math.MaxInt})
		}
	}
}

// Windows of all heights, in all places of texts that are shorter and longer than a window.
func TestScreenOfAllWindows(t *testing.T) {
	for count := range 24 {
		tops := []int{math.MinInt, math.MinInt + 1, -11, -10, -1, api.End, math.MaxInt - 1, math.MaxInt}
		for top := range count + 3 {
			tops = append(tops, top)
		}
		checkScreen(t, numbered(count), at(0, 0), tops)
	}
}

// Where p stands in the text, in the window or out of it, does not matter.
func TestScreenIsApartFromTheCursor(t *testing.T) {
	lines := numbered(15)
	for line := range lines {
		if got := of(vert.Screen(lines, at(line, 1), 3, 'H', 2)); got != jump(4, 1) {
			t.Errorf("from line %d: %v", line, got)
		}
	}
}

// P9.3: a wanted column is kept across shorter lines.
func TestWantedColumnIsKept(t *testing.T) {
	for _, x := range []struct {
		lines []string
		want  int
		cols  []int
	}{
		{[]string{"abc", "a", "abc"}, 2, []int{2, 0, 2}},
		{[]string{"abcd", "", "ab", "abcdef"}, 3, []int{3, 0, 1, 3}},
		{[]string{"abcd", "", "ab", "abcdef"}, api.End, []int{3, 0, 1, 5}},
		{[]string{"abcd", "", "ab", "abcdef"}, math.MaxInt, []int{3, 0, 1, 5}},
		{[]string{"abcd", "", "ab", "abcdef"}, -3, []int{0, 0, 0, 0}},
	} {
		last := len(x.lines) - 1
		m := api.Move{To: at(0, x.cols[0]), Want: x.want}
		for i := range last {
			var ok bool
			if m, ok = vert.Down(x.lines, m.To, 1, m.Want); !ok || m.To != at(i+1, x.cols[i+1]) {
				t.Fatalf("%q, %d: down to %v, %t", x.lines, x.want, m, ok)
			}
		}
		for i := range last {
			var ok bool
			if m, ok = vert.Up(x.lines, m.To, 1, m.Want); !ok || m.To != at(last-i-1, x.cols[last-i-1]) {
				t.Fatalf("%q, %d: up to %v, %t", x.lines, x.want, m, ok)
			}
		}
	}
}

func TestManyLines(t *testing.T) {
	lines := append(slices.Repeat([]string{""}, 100000), "  x")
	for i, x := range []struct{ got, want answer }{
		{of(vert.Down(lines, at(0, 0), 100000, 1)), to(100000, 1, 1)},
		{of(vert.Down(lines, at(0, 0), 100001, 1)), answer{}},
		{of(vert.Up(lines, at(100000, 3), 100000, 1)), to(0, 0, 1)},
		{of(vert.Up(lines, at(100000, 3), 100001, 1)), answer{}},
		{of(vert.Plus(lines, at(1, 0), 99999)), to(100000, 2, -1)},
		{of(vert.Minus(lines, at(99999, 0), 99999)), to(0, 0, -1)},
		{of(vert.Under(lines, at(0, 0), 100001)), to(100000, 2, -1)},
		{of(vert.Under(lines, at(0, 0), 100002)), answer{}},
		{of(vert.Goto(lines, at(0, 0), 100001)), jump(100000, 2)},
		{of(vert.Goto(lines, at(0, 0), 100002)), answer{}},
		{of(vert.Screen(lines, at(0, 0), 99995, 'L', 1)), jump(100000, 2)},
	} {
		if x.got != x.want {
			t.Errorf("%d: %v, want %v", i, x.got, x.want)
		}
	}
}

func TestArgumentsAreLeftAlone(t *testing.T) {
	whole := []string{"  ab", "b", "c", "d"}
	lines := whole[:2]
	for _, p := range around(lines) {
		// The lines behind the last one are not the argument's.
		for i, x := range []answer{
			of(vert.Down(lines, p, 2, 0)), of(vert.Plus(lines, p, 2)), of(vert.Under(lines, p, 3)), of(vert.Goto(lines, p, 3)),
			of(vert.Screen(lines, p, 2, 'H', 1)),
		} {
			if x != (answer{}) {
				t.Errorf("%d: from %v: %v", i, p, x)
			}
		}
		vert.Up(lines, p, 1, 9)
		vert.Minus(lines, p, 1)
		vert.Screen(lines, p, 0, 'L', 1)
	}
	if !slices.Equal(whole, []string{"  ab", "b", "c", "d"}) {
		t.Errorf("the arguments are now %q", whole)
	}
}
