package lineidx_test

import (
	"math"
	"strings"
	"testing"

	"foolscap/api"
	"foolscap/lineidx"
)

// texts have line feeds at their ends, beside one another, and none; and bytes that are no letters.
var texts = []string{"", "a", "\n", "\n\n", "ab\n\nc", "ab\nc", "ab\n", "\nab", "a\r\nb\x00\xff\n\xc3\xa9", "one two\nthree\n\n\nfour"}

// around gives every number that is at home in a text of that length, and those beyond.
func around(length int) []int {
	out := []int{math.MinInt, -2, -1}
	for i := range length + 3 {
		out = append(out, i)
	}
	return append(out, 1<<62, math.MaxInt)
}

// within tells whether a text of that length has n bytes at off.
func within(length, off, n int) bool {
	return off >= 0 && off <= length && n >= 0 && n <= length-off
}

// same checks by every way of reading, at each valid place and beyond, that x is the index of want.
func same(t *testing.T, x *lineidx.Index, want string) {
	t.Helper()
	lines := strings.Split(want, "\n")
	if x.Lines() != len(lines) || x.Len() != len(want) {
		t.Fatalf("of %q: %d lines, %d bytes", want, x.Lines(), x.Len())
	}
	for _, i := range around(len(lines)) {
		start, size, there := 0, 0, i >= 0 && i < len(lines)
		if there {
			start, size = len(strings.Join(append(lines[:i:i], ""), "\n")), len(lines[i])
		}
		if n, ok := x.Start(i); n != start || ok != there {
			t.Fatalf("of %q: Start(%d): %d, %t, want %d, %t", want, i, n, ok, start, there)
		}
		if n, ok := x.Size(i); n != size || ok != there {
			t.Fatalf("of %q: Size(%d): %d, %t, want %d, %t", want, i, n, ok, size, there)
		}
		for _, col := range around(size) {
			off, is := 0, there && col >= 0 && col <= size
			if is {
				off = start + col
			}
			if n, ok := x.Off(api.Pos{Line: i, Col: col}); n != off || ok != is {
				t.Fatalf("of %q: Off(%d, %d): %d, %t, want %d, %t", want, i, col, n, ok, off, is)
			}
		}
	}
	for _, off := range around(len(want)) {
		var pos api.Pos
		there := within(len(want), off, 0)
		if there {
			before := want[:off]
			pos = api.Pos{Line: strings.Count(before, "\n"), Col: off - (strings.LastIndex(before, "\n") + 1)}
		}
		p, ok := x.At(off)
		if p != pos || ok != there {
			t.Fatalf("of %q: At(%d): %v, %t, want %v, %t", want, off, p, ok, pos, there)
		}
		// P3.3.
		if back, ok := x.Off(p); there && (back != off || !ok) {
			t.Fatalf("of %q: Off(At(%d)): %d, %t", want, off, back, ok)
		}
	}
}

// P3.1: New.

func TestNew(t *testing.T) {
	for _, text := range texts {
		same(t, lineidx.New(text), text)
	}
}

func TestNewExamples(t *testing.T) {
	if n := lineidx.New("ab\n\nc").Lines(); n != 3 {
		t.Errorf("%d lines", n)
	}
	x := lineidx.New("a\nb")
	if start, ok := x.Start(1); x.Lines() != 2 || start != 2 || !ok {
		t.Errorf("%d lines, the second begins at %d, %t", x.Lines(), start, ok)
	}
}

func TestEmptyTextHasOneLine(t *testing.T) {
	x := lineidx.New("")
	start, ok := x.Start(0)
	size, is := x.Size(0)
	if x.Lines() != 1 || x.Len() != 0 || start != 0 || !ok || size != 0 || !is {
		t.Errorf("%d lines, %d bytes; %d, %t, %d, %t", x.Lines(), x.Len(), start, ok, size, is)
	}
}

func TestIndexesAreApart(t *testing.T) {
	a, b := lineidx.New("a\nb"), lineidx.New("a\nb")
	a.Insert(0, "x\n")
	b.Delete(1, 1)
	same(t, a, "x\na\nb")
	same(t, b, "ab")
}

// P3.1: Insert.

func TestInsert(t *testing.T) {
	for _, text := range texts {
		for _, off := range around(len(text)) {
			for _, s := range []string{"", "x", "xyz", "\n", "\n\n", "x\n", "\nx", "x\n\ny", "\xff\n\x00"} {
				x, want, there := lineidx.New(text), text, within(len(text), off, 0)
				if there {
					want = text[:off] + s + text[off:]
				}
				if x.Insert(off, s) != there {
					t.Errorf("Insert(%d, %q) into %q: %t", off, s, text, !there)
				}
				same(t, x, want)
			}
		}
	}
}

func TestInsertBeforeAndBehindALineFeed(t *testing.T) {
	for _, y := range []struct {
		off  int
		s    string
		want [3]int // where the three lines begin
	}{
		{2, "\n", [3]int{0, 3, 4}}, // the old line feed is now of an empty line
		{3, "\n", [3]int{0, 3, 4}}, // what was behind it is a line further
		{0, "\n", [3]int{0, 1, 4}},
		{4, "\n", [3]int{0, 3, 5}},
	} {
		x := lineidx.New("ab\nc")
		if !x.Insert(y.off, y.s) || x.Lines() != 3 {
			t.Fatalf("Insert(%d, %q): %d lines", y.off, y.s, x.Lines())
		}
		for line, want := range y.want {
			if start, ok := x.Start(line); start != want || !ok {
				t.Errorf("Insert(%d, %q): line %d begins at %d, %t", y.off, y.s, line, start, ok)
			}
		}
	}
}

// P3.1: Delete.

func TestDelete(t *testing.T) {
	for _, text := range texts {
		for _, off := range around(len(text)) {
			for _, n := range around(len(text)) {
				x, want, there := lineidx.New(text), text, within(len(text), off, n)
				if there {
					want = text[:off] + text[off+n:]
				}
				if x.Delete(off, n) != there {
					t.Errorf("Delete(%d, %d) of %q: %t", off, n, text, !there)
				}
				same(t, x, want)
			}
		}
	}
}

func TestDeleteExample(t *testing.T) {
	x := lineidx.New("ab\nc")
	if x.Delete(0, -1) {
		t.Error("Delete(0, -1): true")
	}
	same(t, x, "ab\nc")
}

func TestDeleteOfALineFeed(t *testing.T) {
	for off, want := range map[int]string{2: "abc\nd", 4: "ab\ncd"} {
		x := lineidx.New("ab\nc\nd")
		if !x.Delete(off, 1) || x.Lines() != 2 {
			t.Errorf("Delete(%d, 1): %d lines", off, x.Lines())
		}
		same(t, x, want)
	}
}

// P3.2: Start, Size.

func TestStartAndSize(t *testing.T) {
	x := lineidx.New("ab\n\nc\n")
	for line, want := range [][2]int{{0, 2}, {3, 0}, {4, 1}, {6, 0}} {
		start, ok := x.Start(line)
		size, is := x.Size(line)
		if start != want[0] || !ok || size != want[1] || !is {
			t.Errorf("line %d: %d, %t, %d, %t", line, start, ok, size, is)
		}
	}
	for _, line := range []int{math.MinInt, -1, 4, math.MaxInt} {
		start, ok := x.Start(line)
		size, is := x.Size(line)
		if start != 0 || ok || size != 0 || is {
			t.Errorf("line %d: %d, %t, %d, %t", line, start, ok, size, is)
		}
	}
	if start, ok := lineidx.New("ab\nc").Start(2); start != 0 || ok {
		t.Errorf("Start(2): %d, %t", start, ok)
	}
}

// P3.2: At.

func TestAt(t *testing.T) {
	x := lineidx.New("ab\n\nc")
	for off, want := range []api.Pos{{Line: 0, Col: 0}, {Line: 0, Col: 1}, {Line: 0, Col: 2}, {Line: 1, Col: 0}, {Line: 2, Col: 0}, {Line: 2, Col: 1}} {
		if p, ok := x.At(off); p != want || !ok {
			t.Errorf("At(%d): %v, %t", off, p, ok)
		}
	}
	for _, off := range []int{math.MinInt, -1, 6, math.MaxInt} {
		if p, ok := x.At(off); p != (api.Pos{}) || ok {
			t.Errorf("At(%d): %v, %t", off, p, ok)
		}
	}
	if p, ok := lineidx.New("ab\nc").At(5); p != (api.Pos{}) || ok {
		t.Errorf("At(5): %v, %t", p, ok)
	}
}

// P3.2: Off.

func TestOff(t *testing.T) {
	x := lineidx.New("ab\nc")
	for _, y := range []struct {
		p   api.Pos
		off int
		ok  bool
	}{
		{api.Pos{Line: 0, Col: 0}, 0, true},
		{api.Pos{Line: 0, Col: 2}, 2, true},
		{api.Pos{Line: 1, Col: 0}, 3, true},
		{api.Pos{Line: 1, Col: 1}, 4, true},
		{api.Pos{Line: 0, Col: 3}, 0, false},
		{api.Pos{Line: 0, Col: -1}, 0, false},
		{api.Pos{Line: 1, Col: 2}, 0, false},
		{api.Pos{Line: 1, Col: -1}, 0, false},
		{api.Pos{Line: 1, Col: math.MaxInt}, 0, false},
		{api.Pos{Line: 1, Col: math.MinInt}, 0, false},
		{api.Pos{Line: 2, Col: 0}, 0, false},
		{api.Pos{Line: -1, Col: 0}, 0, false},
		{api.Pos{Line: math.MaxInt, Col: 0}, 0, false},
		{api.Pos{Line: math.MinInt, Col: 0}, 0, false},
	} {
		if off, ok := x.Off(y.p); off != y.off || ok != y.ok {
			t.Errorf("Off(%v): %d, %t", y.p, off, ok)
		}
	}
}

// P3.3, and P3.1 and P3.2 after many edits.

// step takes numbers from a fixed row, so that every run does the same.
type step uint32

func (s *step) next(n int) int {
	*s = *s*1664525 + 1013904223
	return int(*s>>8) % n
}

// words is what insertions take their bytes from.
const words = "ab\nc\n\ndef\n\n\ng hijk"

func TestManyEditsAgainstAString(t *testing.T) {
	for seed := range 8 {
		s, text, edits := step(seed), "one two\nthree\n", 0
		x := lineidx.New(text)
		for range 600 {
			off, n := s.next(len(text)+5)-2, s.next(12)-2
			if s.next(2) == 0 && len(text) < 80 {
				from := s.next(len(words))
				add := words[from:min(from+max(n, 0), len(words))]
				there := within(len(text), off, 0)
				if x.Insert(off, add) != there {
					t.Fatalf("Insert(%d, %q) into %q: %t", off, add, text, !there)
				}
				if there {
					text, edits = text[:off]+add+text[off:], edits+1
				}
			} else {
				there := within(len(text), off, n)
				if x.Delete(off, n) != there {
					t.Fatalf("Delete(%d, %d) of %q: %t", off, n, text, !there)
				}
				if there {
					text, edits = text[:off]+text[off+n:], edits+1
				}
			}
			same(t, x, text)
		}
		if edits < 200 {
			t.Errorf("only %d edits", edits)
		}
	}
}

func TestAHugeText(t *testing.T) {
	const lines = 100000
	text := strings.Repeat("ab\n", lines)
	x := lineidx.New(text)
	if !x.Insert(3, "\n") || !x.Delete(3, 1) || !x.Insert(1, text) || !x.Delete(1, len(text)) {
		t.Fatal("an edit was rejected")
	}
	if x.Lines() != lines+1 || x.Len() != len(text) {
		t.Fatalf("%d lines, %d bytes", x.Lines(), x.Len())
	}
	for off := range len(text) {
		p, ok := x.At(off)
		back, is := x.Off(p)
		if p != (api.Pos{Line: off / 3, Col: off % 3}) || !ok || back != off || !is {
			t.Fatalf("At(%d): %v, %t; back: %d, %t", off, p, ok, back, is)
		}
	}
}
