package edit_test

import (
	"math"
	"slices"
	"strings"
	"testing"

	"foolscap/api"
	"foolscap/edit"
)

// special texts have no lines; lines that are empty, and that consist of blanks; letters beside bytes that are next to them; bytes that are no runes; and bytes that only look like blanks or line breaks.
var special = [][]string{
	nil, {""}, {"", ""}, {"", "", ""}, {"abc", "", "defg"}, {"abc", "  b "}, {"@AZ[", "`az{", "09_\x00"}, {"\xe9Zz\xff", "Ä\xc3a\x84", "\x80"},
	{" \t", "\t ", "a", ")", " )b", "\t(c"}, {"a\r", "\v\f\r\u00a0\u0085b", "\x00", "\x1fc"}, {"      six", "\t\t\t\t\ttabs", " \t \t \tboth", "    ", "     "},
}

// far are numbers that are no lines, columns or counts of the texts, with those that wrap around when something is added.
var far = []int{math.MinInt, math.MinInt + 1, -api.End, -1, api.End, 1 << 32, 1 << 62, math.MaxInt - 1, math.MaxInt}

// kinds are those of ranges, and numbers that are none.
var kinds = []int{api.Char, api.Line, api.Block, 3, -1, math.MinInt, math.MaxInt}

func at(line, col int) api.Pos { return api.Pos{Line: line, Col: col} }

func span(kind, fromLine, fromCol, toLine, toCol int) api.Range {
	return api.Range{Kind: kind, From: at(fromLine, fromCol), To: at(toLine, toCol)}
}

// short yields all texts of at most so many bytes, line breaks among them, over some bytes.
func short(bytes string, most int) [][]string {
	texts, out := []string{""}, [][]string(nil)
	for i := 0; i < len(texts); i++ {
		out = append(out, strings.Split(texts[i], "\n"))
		for _, c := range []byte(bytes) {
			if len(texts[i]) < most {
				texts = append(texts, texts[i]+string(rune(c)))
			}
		}
	}
	return out
}

func all() [][]string { return append(short("aB \n", 4), special...) }

// columns are those from ahead of a line to behind the longest one, and some that are far off.
func columns(lines []string) []int {
	longest := 0
	for _, line := range lines {
		longest = max(longest, len(line))
	}
	out := []int{math.MinInt, -1, math.MaxInt}
	for col := range longest + 2 {
		out = append(out, col)
	}
	return out
}

// places gives every position in a text, and those beyond its edges.
func places(lines []string) []api.Pos {
	var out []api.Pos
	for _, line := range far {
		out = append(out, at(line, 0), at(line, 1))
	}
	for line := range len(lines) + 1 {
		for _, col := range columns(lines) {
			out = append(out, at(line, col))
		}
	}
	return out
}

// ranges gives ranges of all kinds, valid ones and others.
func ranges(lines []string) []api.Range {
	var out []api.Range
	for _, kind := range kinds {
		for from := -1; from <= len(lines); from++ {
			for to := from - 1; to <= len(lines); to++ {
				for _, col := range columns(lines) {
					for _, end := range columns(lines) {
						out = append(out, span(kind, from, col, to, end))
					}
				}
			}
		}
	}
	for _, line := range far {
		out = append(out, span(api.Line, line, 0, 0, 0), span(api.Line, 0, 0, line, 0), span(api.Block, line, 0, line, 0), span(api.Char, 0, 0, line, 0))
	}
	return out
}

// isPlace reports whether p is a position of lines, behind the end of a line included.
func isPlace(lines []string, p api.Pos) bool {
	for i, line := range lines {
		if p.Line == i && 0 <= p.Col && p.Col <= len(line) {
			return true
		}
	}
	return false
}

// isRange reports whether r is a range of lines, by the words of chapter 6.
func isRange(lines []string, r api.Range) bool {
	if r.From.Line < 0 || r.To.Line >= len(lines) || r.From.Line > r.To.Line {
		return false
	}
	switch r.Kind {
	case api.Char:
		return isPlace(lines, r.From) && isPlace(lines, r.To) && (r.From.Line < r.To.Line || r.From.Col <= r.To.Col)
	case api.Block:
		return 0 <= r.From.Col && r.From.Col <= r.To.Col
	}
	return r.Kind == api.Line
}

// within reports whether the byte at a place belongs to a valid range.
func within(r api.Range, line, col int) bool {
	if line < r.From.Line || line > r.To.Line {
		return false
	}
	switch r.Kind {
	case api.Char:
		return !(line == r.From.Line && col < r.From.Col) && !(line == r.To.Line && col >= r.To.Col)
	case api.Block:
		return r.From.Col <= col && col <= r.To.Col
	}
	return true
}

// mapped puts what do makes of each byte in a valid range in its place, and returns the range's lines.
func mapped(lines []string, r api.Range, do func(c byte) string) []string {
	var out []string
	for i := r.From.Line; i <= r.To.Line; i++ {
		made := ""
		for col := range len(lines[i]) {
			if within(r, i, col) {
				made += do(lines[i][col])
			} else {
				made += lines[i][col : col+1]
			}
		}
		out = append(out, made)
	}
	return out
}

// same checks that c is the change that puts new in the place of the lines from to to, or none at all if ok is not wanted.
func same(t *testing.T, c api.Change, ok bool, lines []string, from, to int, new []string, want bool) {
	t.Helper()
	if ok != want {
		t.Fatalf("%t, want %t", ok, want)
	}
	if !ok {
		if c.At != 0 || len(c.Old) > 0 || len(c.New) > 0 {
			t.Fatalf("%v together with false", c)
		}
		return
	}
	if c.At != from || !slices.Equal(c.Old, lines[from:to+1]) || !slices.Equal(c.New, new) {
		t.Fatalf("%v, want At %d, Old %q, New %q", c, from, lines[from:to+1], new)
	}
}

// calls makes each call of the package with these lines, where the others of its arguments fit.
func calls(lines []string) []api.Change {
	last := len(lines) - 1
	whole := span(api.Line, 0, 0, last, 0)
	part := span(api.Char, 0, 0, last, len(lines[last]))
	block := span(api.Block, 0, 0, last, 1)
	var out []api.Change
	for _, r := range []api.Range{whole, part, block} {
		cut, _ := edit.Cut(lines, r)
		cased, _ := edit.Case(lines, r, "~")
		filled, _ := edit.Fill(lines, r, 'x')
		out = append(out, cut, cased, filled)
	}
	written, _, _ := edit.Write(lines, at(0, 0), lines)
	over, _ := edit.Over(lines, at(0, 0), 'x', 1)
	joined, _, _ := edit.Join(lines, 0, len(lines))
	right, _ := edit.Shift(lines, 0, last, 1, false)
	left, _ := edit.Shift(lines, 0, last, 1, true)
	return append(out, written, over, joined, right, left)
}

// P20.1: Cut, Write.

func TestCutExamples(t *testing.T) {
	for _, x := range []struct {
		lines []string
		r     api.Range
		new   []string
	}{
		{[]string{"abc"}, span(api.Char, 0, 1, 0, 2), []string{"ac"}},
		{[]string{"abc"}, span(api.Char, 0, 0, 0, 3), []string{""}},
		{[]string{"abc"}, span(api.Char, 0, 3, 0, 3), []string{"abc"}},
		{[]string{"ab", "cd", "ef"}, span(api.Char, 0, 1, 2, 1), []string{"af"}},
		{[]string{"ab", "", "cd"}, span(api.Char, 0, 2, 2, 0), []string{"abcd"}},
		{[]string{"ab", "cd"}, span(api.Line, 0, 9, 0, -9), nil},
		{[]string{"ab", "cd"}, span(api.Line, 1, 0, 1, 0), nil},
		{[]string{"ab", "cd"}, span(api.Line, 0, 0, 1, 0), []string{""}},
		{[]string{""}, span(api.Line, 0, 0, 0, 0), []string{""}},
		{[]string{"abc", "", "defg"}, span(api.Block, 0, 1, 2, 2), []string{"a", "", "dg"}},
		{[]string{"abc", "", "defg"}, span(api.Block, 0, 2, 2, math.MaxInt), []string{"ab", "", "de"}},
		{[]string{"abc", "", "defg"}, span(api.Block, 0, math.MaxInt, 2, math.MaxInt), []string{"abc", "", "defg"}},
		{[]string{"abc", "", "defg"}, span(api.Block, 0, 0, 2, 0), []string{"bc", "", "efg"}},
	} {
		c, ok := edit.Cut(x.lines, x.r)
		same(t, c, ok, x.lines, x.r.From.Line, x.r.To.Line, x.new, true)
	}
}

// cutModel is what a valid range's lines become: for Char, by the whole text with line feeds, in which the bytes of the range are left out.
func cutModel(lines []string, r api.Range) []string {
	switch {
	case r.Kind == api.Block:
		return mapped(lines, r, func(byte) string { return "" })
	case r.Kind == api.Line && r.To.Line-r.From.Line == len(lines)-1:
		return []string{""}
	case r.Kind == api.Line:
		return nil
	}
	text := strings.Join(lines[r.From.Line:r.To.Line+1], "\n")
	tail := len(lines[r.To.Line]) - r.To.Col
	return strings.Split(text[:r.From.Col]+text[len(text)-tail:], "\n")
}

func TestCut(t *testing.T) {
	for _, lines := range all() {
		for _, r := range ranges(lines) {
			c, ok := edit.Cut(lines, r)
			if want := isRange(lines, r); !want {
				same(t, c, ok, lines, 0, 0, nil, false)
			} else {
				same(t, c, ok, lines, r.From.Line, r.To.Line, cutModel(lines, r), true)
			}
		}
	}
}

func TestWriteExamples(t *testing.T) {
	for _, x := range []struct {
		line string
		col  int
		text []string
		new  []string
		end  api.Pos
	}{
		{"abc", 1, []string{"X"}, []string{"aXbc"}, at(1, 2)},
		{"abc", 0, []string{"X"}, []string{"Xabc"}, at(1, 1)},
		{"abc", 3, []string{"XY"}, []string{"abcXY"}, at(1, 5)},
		{"abc", 1, []string{""}, []string{"abc"}, at(1, 1)},
		{"abc", 1, []string{"", ""}, []string{"a", "bc"}, at(2, 0)},
		{"abc", 2, []string{"X", "", "YZ"}, []string{"abX", "", "YZc"}, at(3, 2)},
		{"", 0, []string{"X", "YZ"}, []string{"X", "YZ"}, at(2, 2)},
		{"", 0, []string{""}, []string{""}, at(1, 0)},
	} {
		lines := []string{"before", x.line, "behind"}
		c, end, ok := edit.Write(lines, at(1, x.col), x.text)
		same(t, c, ok, lines, 1, 1, x.new, true)
		if end != x.end {
			t.Errorf("Write %q at %d of %q: %v, want %v", x.text, x.col, x.line, end, x.end)
		}
	}
}

func TestWrite(t *testing.T) {
	texts := [][]string{nil, {}, {""}, {"X"}, {"XYZ"}, {"", ""}, {"X", ""}, {"", "YZ"}, {"X", "", "YZ"}, {"\xff\x00", " \t"}}
	for _, lines := range all() {
		for _, p := range places(lines) {
			for _, text := range texts {
				c, end, ok := edit.Write(lines, p, text)
				if !isPlace(lines, p) || len(text) == 0 {
					same(t, c, ok, lines, 0, 0, nil, false)
					if end != at(0, 0) {
						t.Fatalf("%v together with false", end)
					}
					continue
				}
				ahead := lines[p.Line][:p.Col] + strings.Join(text, "\n")
				same(t, c, ok, lines, p.Line, p.Line, strings.Split(ahead+lines[p.Line][p.Col:], "\n"), true)
				if want := at(p.Line+strings.Count(ahead, "\n"), len(ahead)-1-strings.LastIndex(ahead, "\n")); end != want {
					t.Fatalf("Write %q at %v of %q: %v, want %v", text, p, lines, end, want)
				}
			}
		}
	}
}

func TestWriteKeepsLineFeedsInLines(t *testing.T) {
	lines := []string{"a\nb"}
	c, end, ok := edit.Write(lines, at(0, 2), []string{"\n", "X\nY"})
	same(t, c, ok, lines, 0, 0, []string{"a\n\n", "X\nYb"}, true)
	if end != at(1, 3) {
		t.Error(end)
	}
}

// P20.2: Over, Join.

func TestOverExamples(t *testing.T) {
	lines := []string{"", "abc"}
	for _, x := range []struct {
		col, n int
		want   string
	}{{1, 2, "azz"}, {0, 3, "zzz"}, {0, 1, "zbc"}, {2, 1, "abz"}} {
		c, ok := edit.Over(lines, at(1, x.col), 'z', x.n)
		same(t, c, ok, lines, 1, 1, []string{x.want}, true)
	}
	for _, x := range []struct{ line, col, n int }{{1, 1, 3}, {1, 3, 1}, {1, 4, 1}, {1, 0, 0}, {1, 0, -1}, {0, 0, 1}, {2, 0, 1}, {-1, 0, 1}, {1, -1, 1}} {
		c, ok := edit.Over(lines, at(x.line, x.col), 'z', x.n)
		same(t, c, ok, lines, 0, 0, nil, false)
	}
}

func TestOver(t *testing.T) {
	for _, lines := range all() {
		for _, p := range places(lines) {
			for _, n := range append([]int{0, 1, 2, 3, 4, 5}, far...) {
				for _, by := range []byte{'z', '\xff', 0} {
					c, ok := edit.Over(lines, p, by, n)
					if !isPlace(lines, p) || n < 1 || n > 9 || p.Col+n > len(lines[p.Line]) {
						same(t, c, ok, lines, 0, 0, nil, false)
						continue
					}
					line := lines[p.Line]
					want := line[:p.Col] + strings.Repeat(string([]byte{by}), n) + line[p.Col+n:]
					same(t, c, ok, lines, p.Line, p.Line, []string{want}, true)
				}
			}
		}
	}
}

func TestJoinExamples(t *testing.T) {
	for _, x := range []struct {
		lines []string
		want  string
		col   int
	}{
		{[]string{"a", "b"}, "a b", 1},
		{[]string{"abc", "  b "}, "abc b ", 3},
		{[]string{"abc", "  b ", "c"}, "abc b c", 6},
		{[]string{"abc", "b", "c"}, "abc b c", 5},
		{[]string{"  abc", "b"}, "  abc b", 5},
		{[]string{"abc\t", "b"}, "abc\tb", 4},
		{[]string{"abc", "\t ) b"}, "abc) b", 3},
		{[]string{"abc", "(b"}, "abc (b", 3},
		{[]string{"abc", ""}, "abc", 2},
		{[]string{"abc", " \t"}, "abc", 2},
		{[]string{"abc ", "  "}, "abc ", 3},
		{[]string{"abc", "", "b"}, "abc b", 3},
		{[]string{"", "abc"}, "abc", 0},
		{[]string{"", "  abc"}, "abc", 0},
		{[]string{"", ""}, "", 0},
		{[]string{"", " ", ""}, "", 0},
		{[]string{" ", ""}, " ", 0},
		{[]string{" ", " b"}, " b", 1},
		{[]string{"", ")"}, ")", 0},
		{[]string{"a", ")", ")"}, "a))", 2},
		{[]string{"a", "\rb"}, "a \rb", 1},
		{[]string{"a\r", "b"}, "a\r b", 2},
		{[]string{"a", "\u00a0b"}, "a \u00a0b", 1},
	} {
		c, col, ok := edit.Join(x.lines, 0, len(x.lines))
		same(t, c, ok, x.lines, 0, len(x.lines)-1, []string{x.want}, true)
		if col != x.col {
			t.Errorf("Join %q: %d, want %d", x.lines, col, x.col)
		}
	}
}

// joinModel joins lines by the words of the chapter, the last column included.
func joinModel(lines []string) (string, int) {
	out, col := lines[0], 0
	for _, line := range lines[1:] {
		line = strings.TrimLeft(line, " \t")
		gap := " "
		if line == "" || out == "" || strings.HasSuffix(out, " ") || strings.HasSuffix(out, "\t") || strings.HasPrefix(line, ")") {
			gap = ""
		}
		switch {
		case line != "":
			col = len(out)
		case out == "":
			col = 0
		default:
			col = len(out) - 1
		}
		out += gap + line
	}
	return out, col
}

func TestJoin(t *testing.T) {
	for _, lines := range append(short("a) \n", 6), special...) {
		for _, line := range append([]int{0, 1, 2, 3, 4, 5, 6, 7}, far...) {
			for _, n := range append([]int{0, 1, 2, 3, 4, 5, 6, 7}, far...) {
				c, col, ok := edit.Join(lines, line, n)
				if n < 2 || n > 7 || line < 0 || line > 7 || line+n > len(lines) {
					same(t, c, ok, lines, 0, 0, nil, false)
					if col != 0 {
						t.Fatalf("column %d together with false", col)
					}
					continue
				}
				want, place := joinModel(lines[line : line+n])
				same(t, c, ok, lines, line, line+n-1, []string{want}, true)
				if col != place {
					t.Fatalf("Join %q, %d, %d: %d, want %d", lines, line, n, col, place)
				}
			}
		}
	}
}

func TestJoinOfManyLines(t *testing.T) {
	lines := make([]string, 200000)
	for i := range lines {
		lines[i] = "\t abc"
	}
	c, col, ok := edit.Join(lines, 0, len(lines))
	same(t, c, ok, lines, 0, len(lines)-1, []string{"\t abc" + strings.Repeat(" abc", len(lines)-1)}, true)
	if want := len(lines)*4 + 1 - 4; col != want {
		t.Errorf("%d, want %d", col, want)
	}
}

// P20.3: Shift, Case, Fill.

func TestShiftExamples(t *testing.T) {
	lines := []string{"a", "", "      b", " \t ", "\t\t\t\t\tc", "  \t d"}
	for _, x := range []struct {
		from, to, n int
		left        bool
		new         []string
	}{
		{2, 2, 1, true, []string{"  b"}},
		{2, 2, 2, true, []string{"b"}},
		{0, 5, 1, true, []string{"a", "", "  b", "", "\tc", "d"}},
		{0, 2, 1, false, []string{"    a", "", "          b"}},
		{3, 4, 2, false, []string{"         \t ", "        \t\t\t\t\tc"}},
		{1, 1, 9, false, []string{""}},
		{1, 1, 9, true, []string{""}},
	} {
		c, ok := edit.Shift(lines, x.from, x.to, x.n, x.left)
		same(t, c, ok, lines, x.from, x.to, x.new, true)
	}
}

// shiftModel shifts a line step by step.
func shiftModel(line string, n int, left bool) string {
	for range min(n, 1024) {
		switch {
		case left:
			for range 4 {
				if line != "" && (line[0] == ' ' || line[0] == '\t') {
					line = line[1:]
				}
			}
		case line != "":
			line = "    " + line
		}
	}
	return line
}

func TestShift(t *testing.T) {
	for _, lines := range append(short("a\t \n", 4), special...) {
		edges := append([]int{0, 1, 2, 3, 4, 5, 6}, far...)
		for _, from := range edges {
			for _, to := range edges {
				for _, n := range []int{math.MinInt, -1, 0, 1, 2, 3} {
					for _, left := range []bool{false, true} {
						c, ok := edit.Shift(lines, from, to, n, left)
						if n < 1 || from < 0 || from > to || to >= len(lines) {
							same(t, c, ok, lines, 0, 0, nil, false)
							continue
						}
						var want []string
						for _, line := range lines[from : to+1] {
							want = append(want, shiftModel(line, n, left))
						}
						same(t, c, ok, lines, from, to, want, true)
					}
				}
			}
		}
	}
}

func TestShiftLimit(t *testing.T) {
	lines := []string{"a", "", strings.Repeat("\t", 5000) + "b"}
	for _, n := range []int{1023, 1024, 1025, 9999, 1 << 32, 1 << 61, 1 << 62, math.MaxInt} {
		width := 4 * min(n, 1024)
		c, ok := edit.Shift(lines, 0, 2, n, false)
		same(t, c, ok, lines, 0, 2, []string{strings.Repeat(" ", width) + "a", "", strings.Repeat(" ", width) + lines[2]}, true)
		c, ok = edit.Shift(lines, 0, 2, n, true)
		same(t, c, ok, lines, 0, 2, []string{"a", "", lines[2][width:]}, true)
	}
}

func TestCaseExamples(t *testing.T) {
	for _, x := range []struct {
		lines []string
		r     api.Range
		how   string
		new   []string
	}{
		{[]string{"aBc1"}, span(api.Char, 0, 1, 0, 3), "~", []string{"abC1"}},
		{[]string{"aBc1"}, span(api.Char, 0, 1, 0, 3), "u", []string{"abc1"}},
		{[]string{"aBc1"}, span(api.Char, 0, 1, 0, 3), "U", []string{"aBC1"}},
		{[]string{"aBc1"}, span(api.Char, 0, 4, 0, 4), "U", []string{"aBc1"}},
		{[]string{"ab", "cd", "ef"}, span(api.Char, 0, 1, 2, 1), "U", []string{"aB", "CD", "Ef"}},
		{[]string{"aB", "Cd"}, span(api.Line, 0, 2, 1, 0), "~", []string{"Ab", "cD"}},
		{[]string{"abc", "", "defg"}, span(api.Block, 0, 1, 2, 2), "U", []string{"aBC", "", "dEFg"}},
		{[]string{"@AZ[`az{"}, span(api.Line, 0, 0, 0, 0), "~", []string{"@az[`AZ{"}},
		{[]string{"Äé\xc3\xffA"}, span(api.Line, 0, 0, 0, 0), "u", []string{"Äé\xc3\xffa"}},
	} {
		c, ok := edit.Case(x.lines, x.r, x.how)
		same(t, c, ok, x.lines, x.r.From.Line, x.r.To.Line, x.new, true)
	}
	lines := []string{"abc"}
	for _, how := range []string{"", "g~", "~~", "uU", "x", "\x00", "u ", "´"} {
		c, ok := edit.Case(lines, span(api.Line, 0, 0, 0, 0), how)
		same(t, c, ok, lines, 0, 0, nil, false)
	}
}

func TestCaseOfEachByte(t *testing.T) {
	const small, capital = "abcdefghijklmnopqrstuvwxyz", "ABCDEFGHIJKLMNOPQRSTUVWXYZ"
	for b := range 256 {
		line := string([]byte{byte(b)})
		for how, other := range map[string][2]string{"u": {capital, small}, "U": {small, capital}, "~": {small + capital, capital + small}} {
			want := line
			if i := strings.IndexByte(other[0], byte(b)); i >= 0 {
				want = other[1][i : i+1]
			}
			c, ok := edit.Case([]string{line}, span(api.Char, 0, 0, 0, 1), how)
			same(t, c, ok, []string{line}, 0, 0, []string{want}, true)
		}
	}
}

func TestCase(t *testing.T) {
	for _, lines := range all() {
		for _, r := range ranges(lines) {
			for how, do := range map[string]func(byte) string{
				"u": func(c byte) string { return turned(c, 'A', 'Z') },
				"U": func(c byte) string { return turned(c, 'a', 'z') },
				"~": func(c byte) string {
					if c <= 'Z' {
						return turned(c, 'A', 'Z')
					}
					return turned(c, 'a', 'z')
				},
				"x": nil,
			} {
				c, ok := edit.Case(lines, r, how)
				if do == nil || !isRange(lines, r) {
					same(t, c, ok, lines, 0, 0, nil, false)
				} else {
					same(t, c, ok, lines, r.From.Line, r.To.Line, mapped(lines, r, do), true)
				}
			}
		}
	}
}

// turned changes the case of a byte from first to last.
func turned(c, first, last byte) string {
	if first <= c && c <= last {
		c ^= 'a' - 'A'
	}
	return string([]byte{c})
}

func TestFillExamples(t *testing.T) {
	lines := []string{"abc", "", "\xe9ñ"}
	for _, x := range []struct {
		r   api.Range
		new []string
	}{
		{span(api.Char, 0, 1, 2, 1), []string{"axx", "", "xñ"}},
		{span(api.Char, 0, 1, 0, 1), []string{"abc"}},
		{span(api.Line, 2, 1, 2, 0), []string{"xxx"}},
		{span(api.Line, 0, 9, 2, -9), []string{"xxx", "", "xxx"}},
		{span(api.Block, 0, 1, 2, 1), []string{"axc", "", "\xe9x\xb1"}},
		{span(api.Block, 0, 0, 2, math.MaxInt), []string{"xxx", "", "xxx"}},
	} {
		c, ok := edit.Fill(lines, x.r, 'x')
		same(t, c, ok, lines, x.r.From.Line, x.r.To.Line, x.new, true)
	}
}

func TestFill(t *testing.T) {
	for _, lines := range all() {
		for _, r := range ranges(lines) {
			for _, by := range []byte{'x', '\xff', '\n'} {
				c, ok := edit.Fill(lines, r, by)
				if !isRange(lines, r) {
					same(t, c, ok, lines, 0, 0, nil, false)
				} else {
					same(t, c, ok, lines, r.From.Line, r.To.Line, mapped(lines, r, func(byte) string { return string([]byte{by}) }), true)
				}
			}
		}
	}
}

// P20.4: an edit is a change of whole lines, and no function modifies lines.

func TestChangesAreOfWholeLines(t *testing.T) {
	lines := []string{"", "x", "", "y", ""}
	r := span(api.Char, 1, 1, 3, 0)
	cased, ok := edit.Case(lines, r, "U")
	same(t, cased, ok, lines, 1, 3, []string{"x", "", "y"}, true)
	shifted, ok := edit.Shift(lines, 0, 4, 1, true)
	same(t, shifted, ok, lines, 0, 4, lines, true)
	cut, ok := edit.Cut(lines, span(api.Block, 0, 1, 4, 2))
	same(t, cut, ok, lines, 0, 4, lines, true)
	written, _, ok := edit.Write(lines, at(2, 0), []string{""})
	same(t, written, ok, lines, 2, 2, []string{""}, true)
	over, ok := edit.Over(lines, at(3, 0), 'y', 1)
	same(t, over, ok, lines, 3, 3, []string{"y"}, true)
	filled, ok := edit.Fill(lines, span(api.Line, 1, 0, 1, 0), 'x')
	same(t, filled, ok, lines, 1, 1, []string{"x"}, true)
}

func TestLinesAreLeftAlone(t *testing.T) {
	room := []string{"a", "\t b", "", "Cd", "spare", "more"}
	kept := slices.Clone(room)
	for n := 1; n <= 4; n++ {
		for _, c := range calls(room[:n]) {
			for _, list := range [][]string{c.Old, c.New} {
				for i := range list {
					list[i] = "!"
				}
				_ = append(list, "!", "!")
			}
			if !slices.Equal(room, kept) {
				t.Fatalf("of %d lines: %q", n, room)
			}
		}
	}
}

func TestWriteLeavesItsTextAlone(t *testing.T) {
	for n := 1; n <= 3; n++ {
		room := []string{"X", "Y", "Z", "spare"}
		c, _, _ := edit.Write([]string{"abc"}, at(0, 1), room[:n])
		for i := range c.New {
			c.New[i] = "!"
		}
		_ = append(c.New, "!")
		if !slices.Equal(room, []string{"X", "Y", "Z", "spare"}) {
			t.Fatalf("of %d lines: %q", n, room)
		}
	}
}

func TestListsOfAChangeAreApart(t *testing.T) {
	for _, lines := range [][]string{{"a"}, {" a", "", "b"}} {
		for i, c := range calls(lines) {
			old := slices.Clone(c.Old)
			for k := range c.New {
				c.New[k] = "!"
			}
			_ = append(c.New, "!")
			if !slices.Equal(c.Old, old) {
				t.Fatalf("change %d of %q: %q", i, lines, c.Old)
			}
		}
	}
}
