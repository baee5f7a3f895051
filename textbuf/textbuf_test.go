package textbuf_test

import (
	"math"
	"slices"
	"strings"
	"testing"

	"foolscap/api"
	"foolscap/textbuf"
)

// texts have empty lines at their ends, beside one another, and alone; and bytes that are no letters.
var texts = [][]string{{""}, {"a"}, {"", ""}, {"a", "", "bc"}, {"", "ab"}, {"ab", ""}, {"a\r", "\x00\xff", "\xc3\xa9", ""}, {"one two", "three", "", "", "four"}}

// made returns a text that New must not refuse.
func made(t *testing.T, lines ...string) *textbuf.Buf {
	t.Helper()
	b, e := textbuf.New(lines...)
	if b == nil || e != api.OK {
		t.Fatalf("New of %d lines: %v", len(lines), e)
	}
	return b
}

// around gives every number that is at home in a text of so many lines, and those beyond.
func around(count int) []int {
	out := []int{math.MinInt, -2, -1}
	for i := range count + 3 {
		out = append(out, i)
	}
	return append(out, 1<<62, math.MaxInt)
}

// within tells whether a text of so many lines has n of them at the given one.
func within(count, at, n int) bool {
	return at >= 0 && at <= count && n >= 0 && n <= count-at
}

func size(lines []string) int { return len(strings.Join(lines, "\n")) + 1 }

// replaced is what a text has to be when lines of it are replaced.
func replaced(text []string, at, n int, lines []string) []string {
	out := slices.Concat(text[:at], lines, text[at+n:])
	if len(out) == 0 {
		return []string{""}
	}
	return out
}

// same checks by every way of reading that the text is exactly want.
func same(t *testing.T, b *textbuf.Buf, want ...string) {
	t.Helper()
	if b.Count() != len(want) || b.Bytes() != size(want) {
		t.Fatalf("%d lines, %d bytes, want %.99q", b.Count(), b.Bytes(), want)
	}
	if got := b.Lines(); !slices.Equal(got, want) {
		t.Fatalf("Lines: %.99q, want %.99q", got, want)
	}
	for _, i := range around(len(want)) {
		line, there := "", i >= 0 && i < len(want)
		if there {
			line = want[i]
		}
		if got, ok := b.Line(i); got != line || ok != there {
			t.Fatalf("Line(%d) of %.99q: %.99q, %t", i, want, got, ok)
		}
	}
	n := 0
	for i, line := range b.All() {
		if i != n || n >= len(want) || line != want[n] {
			t.Fatalf("All: %d, %.99q as number %d of %.99q", i, line, n, want)
		}
		n++
	}
	if n != len(want) {
		t.Fatalf("All: %d of %.99q", n, want)
	}
	if b.Pieces() < 1 || b.Pieces() > 2*b.Edits()+1 {
		t.Fatalf("%d pieces after %d edits", b.Pieces(), b.Edits())
	}
}

// P4.1: New.

func TestNew(t *testing.T) {
	for _, lines := range texts {
		b := made(t, lines...)
		same(t, b, lines...)
		if b.Edits() != 0 {
			t.Errorf("New of %q: %d edits", lines, b.Edits())
		}
	}
}

func TestNewOfNoLines(t *testing.T) {
	same(t, made(t), "")
	same(t, made(t, []string{}...), "")
}

func TestNewRefuses(t *testing.T) {
	long := strings.Repeat("x", api.MaxBytes)
	for _, x := range []struct {
		lines  []string
		wanted api.Errno
	}{
		{[]string{"\n"}, api.ErrPlace},
		{[]string{"a\nb"}, api.ErrPlace},
		{[]string{"a", "b\n"}, api.ErrPlace},
		{[]string{"\na", "b"}, api.ErrPlace},
		{[]string{"a\n", long}, api.ErrPlace},
		{[]string{long, "a\n"}, api.ErrPlace},
		{[]string{long + "\n"}, api.ErrPlace},
		{[]string{long}, api.ErrFull},
		{[]string{long[:4094], ""}, api.OK},
		{[]string{long[:4094], "", ""}, api.ErrFull},
		{[]string{long[:4093], "ab"}, api.ErrFull},
		{[]string{long[:4095]}, api.OK},
		{make([]string, 4096), api.OK},
		{make([]string, 4097), api.ErrFull},
	} {
		b, e := textbuf.New(x.lines...)
		if e != x.wanted || (b != nil) != (e == api.OK) {
			t.Errorf("New of %d lines, %.20q: %v", len(x.lines), x.lines[0], e)
		}
		if e == api.OK {
			same(t, b, x.lines...)
		}
	}
}

func TestArgumentsAreLeftAlone(t *testing.T) {
	whole := []string{"a", "b", "c", "d"}
	b := made(t, whole[:2]...)
	b.Replace(1, 1, whole[2:3]...)
	b.Replace(0, 0, whole[:0]...)
	if !slices.Equal(whole, []string{"a", "b", "c", "d"}) {
		t.Fatalf("the arguments are now %q", whole)
	}
	whole[0], whole[2] = "x", "y"
	same(t, b, "a", "c")
	// No line would be left, and the empty one must not be written behind the argument.
	b.Replace(0, 2, whole[:0]...)
	if !slices.Equal(whole, []string{"x", "b", "y", "d"}) {
		t.Fatalf("the arguments are now %q", whole)
	}
}

func TestTextsAreApart(t *testing.T) {
	a, b := made(t, "a", "b"), made(t, "a", "b")
	a.Replace(0, 1, "x", "y")
	b.Replace(1, 1)
	same(t, a, "x", "y", "b")
	same(t, b, "a")
}

// P4.1: Split.

func TestSplit(t *testing.T) {
	for text, want := range map[string][]string{
		"":                       {""},
		"\n":                     {""},
		"\n\n":                   {"", ""},
		"a":                      {"a"},
		"a\n":                    {"a"},
		"a\n\n":                  {"a", ""},
		"\na":                    {"", "a"},
		"a\n\nb":                 {"a", "", "b"},
		"a\r\nb\r":               {"a\r", "b\r"},
		"\x00\n\xff\n\xc3\xa9\n": {"\x00", "\xff", "\xc3\xa9"},
	} {
		if got := textbuf.Split(text); !slices.Equal(got, want) {
			t.Errorf("Split(%q): %q, want %q", text, got, want)
		}
	}
	// Split sets no limit.
	if got := textbuf.Split(strings.Repeat("ab\n", 5000)); len(got) != 5000 || got[4999] != "ab" {
		t.Errorf("Split of 5000 lines: %d", len(got))
	}
}

func TestSplitOfWhatLinesMake(t *testing.T) {
	for _, lines := range texts {
		if got := textbuf.Split(strings.Join(lines, "\n") + "\n"); !slices.Equal(got, lines) {
			t.Errorf("Split: %q, want %q", got, lines)
		}
	}
}

// P4.2: Count, Bytes, Line, Lines, All.

func TestCountAndBytes(t *testing.T) {
	b := made(t, "a", "", "bc")
	if b.Count() != 3 || b.Bytes() != 6 {
		t.Errorf("%d lines, %d bytes", b.Count(), b.Bytes())
	}
}

func TestLine(t *testing.T) {
	b := made(t, "a", "", "bc")
	for i, want := range []string{"a", "", "bc"} {
		if line, ok := b.Line(i); line != want || !ok {
			t.Errorf("Line(%d): %q, %t", i, line, ok)
		}
	}
	for _, i := range []int{math.MinInt, -1, 3, 4, math.MaxInt} {
		if line, ok := b.Line(i); line != "" || ok {
			t.Errorf("Line(%d): %q, %t", i, line, ok)
		}
	}
}

func TestLinesAreApart(t *testing.T) {
	b := made(t, "a", "b")
	first, second := b.Lines(), b.Lines()
	first[0] = "x"
	_ = append(first[:1], "y")
	if !slices.Equal(second, []string{"a", "b"}) {
		t.Errorf("what Lines answered before: %q", second)
	}
	b.Replace(0, 2, "c")
	if !slices.Equal(second, []string{"a", "b"}) {
		t.Errorf("an edit has changed what Lines answered: %q", second)
	}
	same(t, b, "c")
}

func TestConsumersStopAndBeginAgain(t *testing.T) {
	lines := []string{"a", "", "c"}
	all := made(t, lines...).All()
	for n := range lines {
		var got []string
		// Called by hand, so that a yield behind the last one is seen as well.
		for range 2 {
			got = nil
			all(func(i int, line string) bool {
				if i != len(got) {
					t.Errorf("number %d as the one with index %d", i, len(got))
				}
				got = append(got, line)
				return len(got) <= n
			})
			if !slices.Equal(got, lines[:n+1]) {
				t.Errorf("stopped at %d: %q", n, got)
			}
		}
	}
	count := 0
	for range all {
		for range all {
			count++
		}
	}
	if count != 9 {
		t.Errorf("within one another: %d times", count)
	}
}

func TestIteratorsShowTheTextAsItIsWhenTheyBegin(t *testing.T) {
	b := made(t, "a", "b")
	all := b.All()
	b.Replace(1, 1, "x", "y")
	var got []string
	for _, line := range all {
		got = append(got, line)
	}
	if !slices.Equal(got, []string{"a", "x", "y"}) {
		t.Error(got)
	}
}

func TestIterationOfAChangingTextEnds(t *testing.T) {
	for what, change := range map[string]func(b *textbuf.Buf){
		"insert at the front": func(b *textbuf.Buf) { b.Replace(0, 0, "q") },
		"insert at the end":   func(b *textbuf.Buf) { b.Replace(b.Count(), 0, "q") },
		"delete the first":    func(b *textbuf.Buf) { b.Replace(0, 1) },
		"delete the last":     func(b *textbuf.Buf) { b.Replace(b.Count()-1, 1) },
		"delete all":          func(b *textbuf.Buf) { b.Replace(0, b.Count()) },
		"shorten":             func(b *textbuf.Buf) { b.Replace(0, b.Count(), "", "") },
	} {
		b := made(t, "one", "two", "three", "four")
		n := 0
		for range b.All() {
			change(b)
			if n++; n > 1000 {
				t.Fatalf("%s: no end", what)
			}
		}
		if n == 0 {
			t.Errorf("%s: nothing was yielded", what)
		}
	}
}

// P4.2: Replace.

func TestReplace(t *testing.T) {
	for _, text := range texts {
		for _, at := range around(len(text)) {
			for _, n := range around(len(text)) {
				for _, lines := range [][]string{nil, {""}, {"x"}, {"x", "yz"}, {"", "\xff", ""}} {
					b := made(t, text...)
					want, wanted := text, api.ErrPlace
					if within(len(text), at, n) {
						want, wanted = replaced(text, at, n, lines), api.OK
					}
					if e := b.Replace(at, n, lines...); e != wanted {
						t.Fatalf("Replace(%d, %d, %q) of %q: %v", at, n, lines, text, e)
					}
					same(t, b, want...)
				}
			}
		}
	}
}

func TestReplaceExamples(t *testing.T) {
	b := made(t, "a", "bb", "ccc")
	b.Replace(0, 1, "x", "y")
	same(t, b, "x", "y", "bb", "ccc")
	b = made(t, "a", "b")
	b.Replace(0, 1, "x", "y")
	same(t, b, "x", "y", "b")
}

func TestReplaceLeavesALine(t *testing.T) {
	b := made(t, "a", "b")
	if e := b.Replace(0, 2); e != api.OK {
		t.Fatal(e)
	}
	same(t, b, "")
	if e := b.Replace(0, 1); e != api.OK {
		t.Fatal(e)
	}
	same(t, b, "")
	if e := b.Replace(1, 0, "c"); e != api.OK {
		t.Fatal(e)
	}
	same(t, b, "", "c")
}

func TestReplaceAtTheLimit(t *testing.T) {
	long := strings.Repeat("x", api.MaxBytes)
	for _, x := range []struct {
		text   []string
		at, n  int
		lines  []string
		wanted api.Errno
	}{
		{[]string{""}, 0, 1, []string{long[:4095]}, api.OK},
		{[]string{""}, 0, 1, []string{long}, api.ErrFull},
		{[]string{""}, 0, 0, []string{long[:4094]}, api.OK},
		{[]string{""}, 0, 0, []string{long[:4095]}, api.ErrFull},
		{[]string{long[:4095]}, 0, 0, []string{""}, api.ErrFull},
		{[]string{long[:4095]}, 1, 0, []string{""}, api.ErrFull},
		{[]string{long[:4095]}, 0, 0, nil, api.OK},
		{[]string{long[:4095]}, 0, 1, []string{long[1:]}, api.OK}, // the old text must go first
		{[]string{long[:4095]}, 0, 1, []string{long[:4094], ""}, api.OK},
		{[]string{long[:4095]}, 0, 1, []string{long[:4095], ""}, api.ErrFull},
		{[]string{"ab", long[:4089], "c"}, 0, 1, []string{"de", ""}, api.OK},
		{[]string{"ab", long[:4089], "c"}, 0, 1, []string{"def", ""}, api.ErrFull},
		{[]string{"ab", long[:4089], "c"}, 2, 1, []string{"d", ""}, api.OK},
		{[]string{"ab", long[:4089], "c"}, 2, 1, []string{"d", "e"}, api.ErrFull},
		{make([]string, 4096), 7, 2, make([]string, 2), api.OK},
		{make([]string, 4096), 7, 2, make([]string, 3), api.ErrFull},
		{make([]string, 4096), 0, 4096, make([]string, 4097), api.ErrFull},
	} {
		b := made(t, x.text...)
		want := x.text
		if x.wanted == api.OK {
			want = replaced(x.text, x.at, x.n, x.lines)
		}
		if e := b.Replace(x.at, x.n, x.lines...); e != x.wanted {
			t.Errorf("Replace(%d, %d, %.20q) of %.20q: %v", x.at, x.n, x.lines, x.text, e)
		}
		same(t, b, want...)
	}
}

// P4.2: the order of the errors. P4.3.

func TestRejectedEditsChangeNothing(t *testing.T) {
	long := strings.Repeat("x", api.MaxBytes)
	b := made(t, "a", "", "bc")
	b.Replace(1, 1, "d", "e")
	pieces, edits := b.Pieces(), b.Edits()
	for _, x := range []struct {
		at, n  int
		lines  []string
		wanted api.Errno
	}{
		{-1, 1, []string{"x"}, api.ErrPlace},
		{1, -1, []string{"x"}, api.ErrPlace},
		{5, 0, []string{"x"}, api.ErrPlace},
		{4, 1, []string{"x"}, api.ErrPlace},
		{0, 5, nil, api.ErrPlace},
		{1, math.MaxInt, []string{"x"}, api.ErrPlace},
		{math.MaxInt, 1, []string{"x"}, api.ErrPlace},
		{math.MaxInt, math.MaxInt, nil, api.ErrPlace},
		{math.MinInt, math.MinInt, nil, api.ErrPlace},
		{0, 1, []string{"\n"}, api.ErrPlace},
		{0, 1, []string{"x", "y\n", "z"}, api.ErrPlace},
		{4, 0, []string{"x", "y", "z\n"}, api.ErrPlace},
		{4, 1, []string{long}, api.ErrPlace},
		{-1, 0, []string{long}, api.ErrPlace},
		{0, 1, []string{long, "\n"}, api.ErrPlace},
		{0, 1, []string{"\n", long}, api.ErrPlace},
		{0, 1, []string{long}, api.ErrFull},
		{0, 4, []string{long}, api.ErrFull},
		{4, 0, []string{"", long}, api.ErrFull},
	} {
		if e := b.Replace(x.at, x.n, x.lines...); e != x.wanted {
			t.Errorf("Replace(%d, %d, %.20q): %v, want %v", x.at, x.n, x.lines, e, x.wanted)
		}
		same(t, b, "a", "d", "e", "bc")
		if b.Pieces() != pieces || b.Edits() != edits {
			t.Errorf("Replace(%d, %d, %.20q): %d pieces, %d edits", x.at, x.n, x.lines, b.Pieces(), b.Edits())
		}
	}
}

// P4.2: Pieces, Edits.

func TestPiecesAndEdits(t *testing.T) {
	b := made(t, "a", "b", "c")
	if b.Pieces() != 1 || b.Edits() != 0 {
		t.Errorf("at first: %d pieces, %d edits", b.Pieces(), b.Edits())
	}
	b.Replace(1, 0, "x")
	if b.Pieces() != 3 || b.Edits() != 1 {
		t.Errorf("after an insertion: %d pieces, %d edits", b.Pieces(), b.Edits())
	}
	b.Replace(1, 1)
	if b.Pieces() != 2 || b.Edits() != 2 {
		t.Errorf("after a deletion: %d pieces, %d edits", b.Pieces(), b.Edits())
	}
	b.Replace(2, 0)
	if b.Pieces() != 2 || b.Edits() != 2 {
		t.Errorf("after nothing: %d pieces, %d edits", b.Pieces(), b.Edits())
	}
}

// P4.1 to P4.3 after many edits.

// step takes numbers from a fixed row, so that every run does the same.
type step uint32

func (s *step) next(n int) int {
	*s = *s*1664525 + 1013904223
	return int(*s>>8) % n
}

// line is of few bytes mostly, and at times so long that only a few such lines have room.
func (s *step) line() string {
	switch s.next(20) {
	case 0, 1:
		return strings.Repeat("long ", s.next(400))
	case 2:
		return "a\nb"
	}
	return "0123456789"[:s.next(11)]
}

func TestManyEditsAgainstASlice(t *testing.T) {
	told := map[api.Errno]int{}
	for seed := range 8 {
		s, text := step(seed), []string{"one two", "three"}
		b := made(t, text...)
		for range 600 {
			at, n := s.next(len(text)+5)-2, s.next(6)-1
			var lines []string
			for range s.next(5) {
				lines = append(lines, s.line())
			}
			wanted := api.OK
			switch {
			case !within(len(text), at, n), strings.Contains(strings.Join(lines, ""), "\n"):
				wanted = api.ErrPlace
			case size(replaced(text, at, n, lines)) > api.MaxBytes:
				wanted = api.ErrFull
			default:
				text = replaced(text, at, n, lines)
			}
			if e := b.Replace(at, n, lines...); e != wanted {
				t.Fatalf("Replace(%d, %d, %.99q): %v, want %v", at, n, lines, e, wanted)
			}
			told[wanted]++
			same(t, b, text...)
		}
	}
	if told[api.OK] < 1000 || told[api.ErrPlace] < 1000 || told[api.ErrFull] < 30 {
		t.Errorf("edits by their errors: %v", told)
	}
}
