package piece_test

import (
	"math"
	"slices"
	"strings"
	"testing"

	"foolscap/api"
	"foolscap/piece"
)

// table returns a table that New must not refuse.
func table(t *testing.T, text string, most int) *piece.Table {
	t.Helper()
	x, e := piece.New(text, most)
	if x == nil || e != api.OK {
		t.Fatalf("New(%q, %d): %v", text, most, e)
	}
	return x
}

// scattered returns a table of several pieces with the text aXYbZc.
func scattered(t *testing.T) *piece.Table {
	t.Helper()
	x := table(t, "abc", 8)
	x.Insert(1, "XY")
	x.Insert(4, "Z")
	same(t, x, "aXYbZc", 2)
	return x
}

func parts(x *piece.Table) []string {
	var out []string
	for p := range x.All() {
		out = append(out, p)
	}
	return out
}

// same checks by every way of reading that the text is want and that it came about by so many edits.
func same(t *testing.T, x *piece.Table, want string, edits int) {
	t.Helper()
	all := parts(x)
	if got := strings.Join(all, ""); got != want {
		t.Fatalf("All: %q, want %q", all, want)
	}
	if slices.Contains(all, "") {
		t.Fatalf("All: an empty piece in %q", all)
	}
	if x.Pieces() != len(all) || x.Pieces() > 2*edits+1 {
		t.Fatalf("Pieces: %d after %d edits, All yields %q", x.Pieces(), edits, all)
	}
	if x.Edits() != edits {
		t.Fatalf("Edits: %d, want %d", x.Edits(), edits)
	}
	if x.Len() != len(want) {
		t.Fatalf("Len: %d, want %d", x.Len(), len(want))
	}
	if s, e := x.Slice(0, len(want)); s != want || e != api.OK {
		t.Fatalf("Slice: %q, %v, want %q", s, e, want)
	}
}

// around gives every number that is at home in a text of that length, and those beyond.
func around(length int) []int {
	out := []int{math.MinInt, -2, -1}
	for i := range length + 3 {
		out = append(out, i)
	}
	return append(out, 1<<62, math.MaxInt)
}

// within tells whether a text of that length has n bytes at off.
func within(length, off, n int) bool {
	return off >= 0 && off <= length && n >= 0 && n <= length-off
}

// P2.1: New.

func TestNew(t *testing.T) {
	for _, text := range []string{"", "a", "hello", "two\nlines\n", "\x00\xff\xc3"} {
		for _, most := range []int{math.MinInt, -1, 0, 1, len(text) - 1, len(text), len(text) + 1, math.MaxInt} {
			x, e := piece.New(text, most)
			if len(text) > most {
				if x != nil || e != api.ErrFull {
					t.Errorf("New(%q, %d): %v, %v", text, most, x, e)
				}
				continue
			}
			if x == nil || e != api.OK {
				t.Fatalf("New(%q, %d): %v", text, most, e)
			}
			same(t, x, text, 0)
		}
	}
}

func TestTablesAreApart(t *testing.T) {
	a, b := table(t, "abc", 9), table(t, "abc", 9)
	a.Insert(1, "x")
	b.Delete(0, 2)
	same(t, a, "axbc", 1)
	same(t, b, "c", 1)
}

// P2.1: Insert.

func TestInsert(t *testing.T) {
	const text, most = "aXYbZc", 8
	for _, off := range around(len(text)) {
		for _, s := range []string{"", "1", "12", "123", "123456789"} {
			x, want, edits, wanted := scattered(t), text, 2, api.OK
			before := parts(x)
			switch {
			case off < 0 || off > len(text):
				wanted = api.ErrPlace
			case len(text)+len(s) > most:
				wanted = api.ErrFull
			case s != "":
				want, edits = text[:off]+s+text[off:], 3
			}
			if e := x.Insert(off, s); e != wanted {
				t.Errorf("Insert(%d, %q): %v, want %v", off, s, e, wanted)
			}
			same(t, x, want, edits)
			if after := parts(x); edits == 2 && !slices.Equal(after, before) {
				t.Errorf("Insert(%d, %q) has split %q into %q", off, s, before, after)
			}
		}
	}
}

func TestInsertExample(t *testing.T) {
	x := table(t, "hello", 20)
	if e := x.Insert(5, " you"); e != api.OK {
		t.Error(e)
	}
	same(t, x, "hello you", 1)
}

func TestInsertUpToTheLimit(t *testing.T) {
	x := table(t, "", 3)
	for _, y := range []struct {
		s     string
		e     api.Errno
		want  string
		edits int
	}{{"abcd", api.ErrFull, "", 0}, {"ab", api.OK, "ab", 1}, {"cd", api.ErrFull, "ab", 1}, {"c", api.OK, "cab", 2}, {"d", api.ErrFull, "cab", 2}, {"", api.OK, "cab", 2}} {
		if e := x.Insert(0, y.s); e != y.e {
			t.Errorf("Insert(0, %q): %v, want %v", y.s, e, y.e)
		}
		same(t, x, y.want, y.edits)
	}
	// What was deleted takes no room any more.
	if e := x.Delete(0, 2); e != api.OK {
		t.Error(e)
	}
	if e := x.Insert(1, "123"); e != api.ErrFull {
		t.Error(e)
	}
	if e := x.Insert(1, "12"); e != api.OK {
		t.Error(e)
	}
	same(t, x, "b12", 4)
}

func TestInsertWithoutALimit(t *testing.T) {
	x := table(t, "ab", math.MaxInt)
	if e := x.Insert(1, strings.Repeat("x", 5000)); e != api.OK {
		t.Error(e)
	}
	same(t, x, "a"+strings.Repeat("x", 5000)+"b", 1)
}

// P2.1: Delete.

func TestDelete(t *testing.T) {
	const text = "aXYbZc"
	for _, off := range around(len(text)) {
		for _, n := range around(len(text)) {
			x, want, edits, wanted := scattered(t), text, 2, api.OK
			before := parts(x)
			switch {
			case !within(len(text), off, n):
				wanted = api.ErrPlace
			case n > 0:
				want, edits = text[:off]+text[off+n:], 3
			}
			if e := x.Delete(off, n); e != wanted {
				t.Errorf("Delete(%d, %d): %v, want %v", off, n, e, wanted)
			}
			same(t, x, want, edits)
			if after := parts(x); edits == 2 && !slices.Equal(after, before) {
				t.Errorf("Delete(%d, %d) has split %q into %q", off, n, before, after)
			}
		}
	}
}

func TestDeleteExample(t *testing.T) {
	x := table(t, "hello, you!!", 12)
	if e := x.Delete(0, 13); e != api.ErrPlace {
		t.Error(e)
	}
	same(t, x, "hello, you!!", 0)
}

func TestDeleteOfAnEmptyText(t *testing.T) {
	x := table(t, "", 5)
	for _, off := range around(0) {
		for _, n := range around(0) {
			wanted := api.ErrPlace
			if within(0, off, n) {
				wanted = api.OK
			}
			if e := x.Delete(off, n); e != wanted {
				t.Errorf("Delete(%d, %d): %v", off, n, e)
			}
		}
	}
	same(t, x, "", 0)
}

// P2.1: Slice.

func TestSlice(t *testing.T) {
	const text = "aXYbZc"
	x := scattered(t)
	for _, off := range around(len(text)) {
		for _, n := range around(len(text)) {
			want, wanted := "", api.ErrPlace
			if within(len(text), off, n) {
				want, wanted = text[off:off+n], api.OK
			}
			if s, e := x.Slice(off, n); s != want || e != wanted {
				t.Errorf("Slice(%d, %d): %q, %v", off, n, s, e)
			}
		}
	}
	same(t, x, text, 2)
	empty := table(t, "", 0)
	if s, e := empty.Slice(0, 0); s != "" || e != api.OK {
		t.Errorf("Slice of none: %q, %v", s, e)
	}
	if s, e := empty.Slice(0, 1); s != "" || e != api.ErrPlace {
		t.Errorf("Slice of none: %q, %v", s, e)
	}
}

func TestSlicesStayAsTheyWere(t *testing.T) {
	x := scattered(t)
	s, _ := x.Slice(1, 4)
	held := parts(x)
	x.Delete(0, 6)
	x.Insert(0, "12345678")
	if s != "XYbZ" || strings.Join(held, "") != "aXYbZc" {
		t.Errorf("now %q, %q", s, held)
	}
}

// P2.1: Edits.

func TestEdits(t *testing.T) {
	x := table(t, "hello", 8)
	for i, y := range []struct {
		call  func() api.Errno
		e     api.Errno
		edits int
	}{
		{func() api.Errno { return x.Insert(2, "x") }, api.OK, 1},
		{func() api.Errno { return x.Insert(2, "") }, api.OK, 1},
		{func() api.Errno { return x.Insert(7, "x") }, api.ErrPlace, 1},
		{func() api.Errno { return x.Insert(2, "xyz") }, api.ErrFull, 1},
		{func() api.Errno { return x.Insert(7, "xyz") }, api.ErrPlace, 1},
		{func() api.Errno { return x.Insert(6, "x") }, api.OK, 2},
		{func() api.Errno { return x.Delete(1, 0) }, api.OK, 2},
		{func() api.Errno { return x.Delete(1, 7) }, api.ErrPlace, 2},
		{func() api.Errno { return x.Delete(1, 2) }, api.OK, 3},
		{func() api.Errno { _, e := x.Slice(1, 2); return e }, api.OK, 3},
		{func() api.Errno { _, e := x.Slice(1, 9); return e }, api.ErrPlace, 3},
		{func() api.Errno { return x.Delete(0, 5) }, api.OK, 4},
		{func() api.Errno { return x.Delete(0, 0) }, api.OK, 4},
	} {
		if e := y.call(); e != y.e || x.Edits() != y.edits {
			t.Errorf("%d: %v, %d edits", i, e, x.Edits())
		}
	}
	same(t, x, "", 4)
}

// P2.2: Pieces.

func TestPieces(t *testing.T) {
	x := table(t, "", 9)
	if x.Pieces() != 0 {
		t.Errorf("an empty text has %d pieces", x.Pieces())
	}
	x.Insert(0, "hello")
	if x.Pieces() != 1 {
		t.Errorf("a text that was inserted at once has %d pieces", x.Pieces())
	}
	x.Insert(2, "xy")
	x.Delete(0, 7)
	if x.Pieces() != 0 {
		t.Errorf("a text that was emptied has %d pieces", x.Pieces())
	}
	x = table(t, "ab", 9)
	x.Insert(1, "x")
	if got := parts(x); !slices.Equal(got, []string{"a", "x", "b"}) || x.Pieces() != 3 {
		t.Errorf("%q, %d pieces", got, x.Pieces())
	}
}

func TestPiecesStayFew(t *testing.T) {
	text := strings.Repeat("a", 400)
	x, edits := table(t, text, 1000), 0
	for i := range 50 {
		// Neither of them touches where another one was.
		x.Insert(4*i+1, "xy")
		text, edits = text[:4*i+1]+"xy"+text[4*i+1:], edits+1
		same(t, x, text, edits)
	}
	for i := range 50 {
		x.Delete(250+2*i, 1)
		text, edits = text[:250+2*i]+text[251+2*i:], edits+1
		same(t, x, text, edits)
	}
}

// P2.2: All.

func TestConsumersStopAndBeginAgain(t *testing.T) {
	x := scattered(t)
	all, full := x.All(), parts(x)
	for n := range full {
		var got []string
		// Called by hand, so that a yield behind the last one is seen as well.
		all(func(p string) bool {
			got = append(got, p)
			return len(got) <= n
		})
		if !slices.Equal(got, full[:n+1]) {
			t.Errorf("stopped at %d: %q", n, got)
		}
		if again := slices.Collect(all); !slices.Equal(again, full) {
			t.Errorf("begun again: %q", again)
		}
	}
	if got := parts(table(t, "", 1)); got != nil {
		t.Errorf("an empty text yields %q", got)
	}
}

func TestIterationOfAChangingTextEnds(t *testing.T) {
	changes := map[string]func(x *piece.Table){
		"insert at the front": func(x *piece.Table) { x.Insert(0, "q") },
		"insert at the end":   func(x *piece.Table) { x.Insert(x.Len(), "q") },
		"insert within":       func(x *piece.Table) { x.Insert(x.Len()/2, "qrs") },
		"delete the first":    func(x *piece.Table) { x.Delete(0, 1) },
		"delete the last":     func(x *piece.Table) { x.Delete(x.Len()-1, 1) },
		"delete all":          func(x *piece.Table) { x.Delete(0, x.Len()) },
		"replace all":         func(x *piece.Table) { x.Delete(0, x.Len()); x.Insert(0, "qr") },
	}
	for what, change := range changes {
		x := table(t, "abcdef", 99999)
		x.Insert(3, "XYZ")
		n := 0
		for range x.All() {
			change(x)
			if n++; n > 1000 {
				t.Fatalf("%s: no end", what)
			}
		}
		if n == 0 {
			t.Errorf("%s: nothing was yielded", what)
		}
	}
}

// P2.3.

// step takes numbers from a fixed row, so that every run does the same.
type step uint32

func (s *step) next(n int) int {
	*s = *s*1664525 + 1013904223
	return int(*s>>8) % n
}

func TestManyEditsAgainstAString(t *testing.T) {
	const most = 120
	for seed := range 8 {
		s, text, edits := step(seed), "one two\nthree\n", 0
		x := table(t, text, most)
		for range 1000 {
			off, n := s.next(len(text)+5)-2, s.next(14)-2
			wanted := api.OK
			if s.next(2) == 0 {
				add := "0123456789ab"[:max(n, 0)]
				switch {
				case off < 0 || off > len(text):
					wanted = api.ErrPlace
				case len(text)+len(add) > most:
					wanted = api.ErrFull
				case add != "":
					text, edits = text[:off]+add+text[off:], edits+1
				}
				if e := x.Insert(off, add); e != wanted {
					t.Fatalf("Insert(%d, %q): %v, want %v", off, add, e, wanted)
				}
			} else {
				switch {
				case !within(len(text), off, n):
					wanted = api.ErrPlace
				case n > 0:
					text, edits = text[:off]+text[off+n:], edits+1
				}
				if e := x.Delete(off, n); e != wanted {
					t.Fatalf("Delete(%d, %d): %v, want %v", off, n, e, wanted)
				}
			}
			same(t, x, text, edits)
			off = s.next(len(text) + 1)
			n = s.next(len(text) - off + 1)
			if got, e := x.Slice(off, n); got != text[off:off+n] || e != api.OK {
				t.Fatalf("Slice(%d, %d) of %q: %q, %v", off, n, text, got, e)
			}
		}
		if edits < 500 {
			t.Errorf("only %d edits", edits)
		}
	}
}
