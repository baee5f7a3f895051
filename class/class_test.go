package class_test

import (
	"math"
	"slices"
	"strings"
	"testing"

	"foolscap/api"
	"foolscap/class"
)

// texts have empty lines at their ends, beside one another, and alone; lines of blanks; and bytes that are no letters.
var texts = [][]string{{""}, {"a"}, {" "}, {"", ""}, {"abc"}, {"abc", "", "de"}, {"", "ab"}, {"ab", ""}, {"  a", "\t\t", "\x00\xff", "\xc3\xa9\r"}}

func at(line, col int) api.Pos { return api.Pos{Line: line, Col: col} }

// around gives every number from 0 to most, and those beyond.
func around(most int) []int {
	out := []int{math.MinInt, math.MinInt32, -2, -1}
	for i := range most + 3 {
		out = append(out, i)
	}
	return append(out, api.End, 1<<62, math.MaxInt)
}

// lastOf is the greatest column of a line.
func lastOf(line string, past bool) int {
	if past || line == "" {
		return len(line)
	}
	return len(line) - 1
}

// P5.1: Of.

func TestOf(t *testing.T) {
	const blanks = " \t"
	const word = "abcdefghijklmnopqrstuvwxyzABCDEFGHIJKLMNOPQRSTUVWXYZ0123456789_"
	for i := range 256 {
		c := byte(i)
		small, big := 2, 1
		switch {
		case strings.IndexByte(blanks, c) >= 0:
			small, big = 0, 0
		case strings.IndexByte(word, c) >= 0 || i >= 128:
			small = 1
		}
		if got := class.Of(c, false); got != small {
			t.Errorf("Of(%d, false): %d, want %d", c, got, small)
		}
		if got := class.Of(c, true); got != big {
			t.Errorf("Of(%d, true): %d, want %d", c, got, big)
		}
	}
}

func TestOfTheChaptersExample(t *testing.T) {
	if class.Of('.', false) != 2 || class.Of('.', true) != 1 {
		t.Errorf("%d, %d", class.Of('.', false), class.Of('.', true))
	}
}

// Bytes that other programs take for space are no blanks.
func TestOnlySpaceAndTabAreBlanks(t *testing.T) {
	for _, c := range []byte{'\n', '\r', '\v', '\f', 0, 0x85, 0xa0} {
		if class.Of(c, false) == 0 || class.Of(c, true) == 0 {
			t.Errorf("%d is a blank", c)
		}
	}
}

// P5.1: First.

func TestFirst(t *testing.T) {
	for line, want := range map[string]int{
		"":           0,
		"a":          0,
		".":          0,
		" ":          0,
		"\t":         0,
		"  ":         1,
		"   ":        2,
		"  a":        2,
		"  a b":      2,
		"a  ":        0,
		"\t.":        1,
		" \t \t":     3,
		" \t\t x":    4,
		" \r":        1,
		"\n a":       0,
		" \x00":      1,
		"  \xff":     2,
		" \xc3\xa9":  1,
		"\xa0 a":     0,
		"\u00a0a":    0,
		" \u3000a ":  1,
		" \xc2\x85 ": 1,
	} {
		if got := class.First(line); got != want {
			t.Errorf("First(%q): %d, want %d", line, got, want)
		}
	}
	long := strings.Repeat(" ", 5000)
	if class.First(long) != 4999 || class.First(long+"x") != 5000 {
		t.Errorf("First of 5000 blanks: %d, and with a letter behind them: %d", class.First(long), class.First(long+"x"))
	}
}

// P5.2: Clamp.

func TestClamp(t *testing.T) {
	lines := []string{"abc", "", "de"}
	for _, x := range []struct {
		p        api.Pos
		on, past api.Pos
	}{
		{at(0, 1), at(0, 1), at(0, 1)},
		{at(0, 2), at(0, 2), at(0, 2)},
		{at(0, 3), at(0, 2), at(0, 3)},
		{at(0, 4), at(0, 2), at(0, 3)},
		{at(0, -1), at(0, 0), at(0, 0)},
		{at(1, 0), at(1, 0), at(1, 0)},
		{at(1, 1), at(1, 0), at(1, 0)},
		{at(1, -1), at(1, 0), at(1, 0)},
		{at(2, 2), at(2, 1), at(2, 2)},
		{at(2, api.End), at(2, 1), at(2, 2)},
		// The line is restricted first: the column is that of the line which is left.
		{at(-1, 1), at(0, 1), at(0, 1)},
		{at(-1, 9), at(0, 2), at(0, 3)},
		{at(3, 2), at(2, 1), at(2, 2)},
		{at(3, 0), at(2, 0), at(2, 0)},
		{at(math.MaxInt, math.MinInt), at(2, 0), at(2, 0)},
		{at(math.MinInt, math.MaxInt), at(0, 2), at(0, 3)},
	} {
		if got := class.Clamp(lines, x.p, false); got != x.on {
			t.Errorf("Clamp(%v, false): %v, want %v", x.p, got, x.on)
		}
		if got := class.Clamp(lines, x.p, true); got != x.past {
			t.Errorf("Clamp(%v, true): %v, want %v", x.p, got, x.past)
		}
	}
}

func TestClampOfNoLines(t *testing.T) {
	for _, p := range []api.Pos{at(0, 0), at(3, 4), at(-1, -1), at(math.MaxInt, math.MinInt)} {
		for _, past := range []bool{false, true} {
			if a, b := class.Clamp(nil, p, past), class.Clamp([]string{}, p, past); a != at(0, 0) || b != at(0, 0) {
				t.Errorf("Clamp(%v, %t): %v, %v", p, past, a, b)
			}
		}
	}
}

// P5.3, and P5.2: what Clamp answers is in the text and is the nearest there; a position that is in the text stays.
func TestClampIsWithinTheText(t *testing.T) {
	for _, lines := range texts {
		for _, past := range []bool{false, true} {
			for _, i := range around(len(lines)) {
				for _, col := range around(4) {
					checkClamp(t, lines, at(i, col), past)
				}
			}
		}
	}
}

func checkClamp(t *testing.T, lines []string, p api.Pos, past bool) {
	t.Helper()
	got := class.Clamp(lines, p, past)
	if got.Line < 0 || got.Line >= len(lines) {
		t.Fatalf("Clamp(%q, %v, %t): %v is no line", lines, p, past, got)
	}
	most := lastOf(lines[got.Line], past)
	if got.Col < 0 || got.Col > most {
		t.Fatalf("Clamp(%q, %v, %t): %v is not in the line", lines, p, past, got)
	}
	if !nearest(got.Line, p.Line, len(lines)-1) || !nearest(got.Col, p.Col, most) {
		t.Fatalf("Clamp(%q, %v, %t): %v is not the nearest", lines, p, past, got)
	}
	if again := class.Clamp(lines, got, past); again != got {
		t.Fatalf("Clamp(%q, %v, %t): %v, and of that %v", lines, p, past, got, again)
	}
}

// nearest tells whether got, which is from 0 to most, is nearest to n there.
func nearest(got, n, most int) bool {
	switch {
	case n < 0:
		return got == 0
	case n > most:
		return got == most
	}
	return got == n
}

// P5.2: Size.

func TestSize(t *testing.T) {
	for _, x := range []struct {
		lines []string
		want  int
	}{
		{nil, 0},
		{[]string{}, 0},
		{[]string{""}, 1},
		{[]string{"", ""}, 2},
		{[]string{"a"}, 2},
		{[]string{"abc", "", "de"}, 8},
		{[]string{"\xc3\xa9"}, 3},
		{[]string{"a\nb"}, 4},
		{[]string{strings.Repeat("x", 2*api.MaxBytes), ""}, 2*api.MaxBytes + 2},
	} {
		if got := class.Size(x.lines); got != x.want {
			t.Errorf("Size(%.20q): %d, want %d", x.lines, got, x.want)
		}
	}
}

// P5.2: Same.

func TestSame(t *testing.T) {
	for i, a := range texts {
		for j, b := range texts {
			if got := class.Same(a, slices.Clone(b)); got != (i == j) {
				t.Errorf("Same(%q, %q): %t", a, b, got)
			}
		}
	}
	for _, x := range []struct {
		a, b []string
		want bool
	}{
		{nil, nil, true},
		{nil, []string{}, true},
		{nil, []string{""}, false},
		{[]string{""}, []string{"", ""}, false},
		{[]string{"a"}, []string{"A"}, false},
		{[]string{"a", "b"}, []string{"b", "a"}, false},
		{[]string{"a", "b"}, []string{"a"}, false},
		{[]string{"a", "b"}, []string{"b"}, false},
		{[]string{"ab"}, []string{"a", "b"}, false},
		{[]string{"a\nb"}, []string{"a", "b"}, false},
		{[]string{"a", "b"}, []string{"a", "c"}, false},
		{[]string{"a", "b", "c"}, []string{"x", "b", "c"}, false},
	} {
		if class.Same(x.a, x.b) != x.want || class.Same(x.b, x.a) != x.want {
			t.Errorf("Same(%q, %q): %t, %t", x.a, x.b, class.Same(x.a, x.b), class.Same(x.b, x.a))
		}
	}
}

func TestArgumentsAreLeftAlone(t *testing.T) {
	whole := []string{"a", "b", "c"}
	class.Clamp(whole[:2], at(9, 9), true)
	class.Size(whole[:2])
	class.Same(whole[:2], whole[1:])
	if !slices.Equal(whole, []string{"a", "b", "c"}) {
		t.Errorf("the arguments are now %q", whole)
	}
}
