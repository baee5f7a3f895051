package marks_test

import (
	"bytes"
	"math"
	"math/big"
	"slices"
	"testing"

	"foolscap/api"
	"foolscap/marks"
)

const most = 1 << 30

// numbers are below, in, and above those that a replacement of lines can have.
var numbers = []int{math.MinInt, -most, -2, -1, 0, 1, 2, 3, 4, 5, 6, 9, most - 1, most, most + 1, most + 2, most + 7, 2 * most, 2*most + 1, 1 << 62, math.MaxInt - most - 1, math.MaxInt - most, math.MaxInt - 3, math.MaxInt - 1, math.MaxInt}

// valid are the names that a mark can have, in ascending order.
const valid = "`abcdefghijklmnopqrstuvwxyz"

func at(line, col int) api.Pos { return api.Pos{Line: line, Col: col} }

// number is what Shift has to return, by the words of the chapter, reckoned without bounds and then held at the greatest number.
func number(line, at, old, now int) (int, bool) {
	for _, n := range []int{at, old, now} {
		if n < 0 || n > most {
			return line, true
		}
	}
	if line < at {
		return line, true
	}
	far := new(big.Int).Sub(big.NewInt(int64(line)), big.NewInt(int64(at)))
	if far.Cmp(big.NewInt(int64(old))) < 0 {
		if far.Cmp(big.NewInt(int64(now))) < 0 {
			return line, true
		}
		return 0, false
	}
	to := new(big.Int).Add(big.NewInt(int64(line)), big.NewInt(int64(now-old)))
	if !to.IsInt64() {
		return math.MaxInt, true
	}
	return int(to.Int64()), true
}

// same checks by every way of reading that exactly the marks of want are set.
func same(t *testing.T, m *marks.Marks, want map[byte]api.Pos) {
	t.Helper()
	var names []byte
	for c := range 256 {
		p, ok := want[byte(c)]
		if got, set := m.Get(byte(c)); got != p || set != ok {
			t.Fatalf("Get(%d): %v, %t, want %v, %t", c, got, set, p, ok)
		}
		if ok {
			names = append(names, byte(c))
		}
	}
	if got := m.Names(); !bytes.Equal(got, names) {
		t.Fatalf("Names: %q, want %q", got, names)
	}
}

// adjusted is what Adjust has to make of marks.
func adjusted(set map[byte]api.Pos, at, old, now int) map[byte]api.Pos {
	out := map[byte]api.Pos{}
	for name, p := range set {
		if line, ok := number(p.Line, at, old, now); ok {
			out[name] = api.Pos{Line: line, Col: p.Col}
		}
	}
	return out
}

// made returns marks that are set to lines one behind another, from a number on, beginning with the grave accent.
func made(from int) (*marks.Marks, map[byte]api.Pos) {
	m, set := marks.New(), map[byte]api.Pos{}
	for i := range len(valid) {
		p := at(from+i, i*i)
		m.Set(valid[i], p)
		set[valid[i]] = p
	}
	return m, set
}

// P13.1: Shift.

func TestShift(t *testing.T) {
	for _, x := range []struct {
		line, at, old, now, want int
		ok                       bool
	}{
		{5, 2, 1, 3, 7, true},
		{3, 2, 2, 1, 0, false},
		{1, 2, 1, 3, 1, true},
		{2, 2, 1, 3, 2, true},
		{3, 2, 1, 3, 5, true},
		{2, 2, 2, 1, 2, true},
		{4, 2, 2, 1, 3, true},
		{2, 2, 1, 0, 0, false},
		{3, 2, 1, 0, 2, true},
		{0, 0, 1, 0, 0, false},
		{0, 0, 1, 1, 0, true},
		{0, 0, 0, 0, 0, true},
		{2, 2, 0, 2, 4, true},
		{1, 2, 0, 2, 1, true},
		{4, 2, 3, 3, 4, true},
		{9, 2, 3, 3, 9, true},
	} {
		if got, ok := marks.Shift(x.line, x.at, x.old, x.now); got != x.want || ok != x.ok {
			t.Errorf("Shift(%d, %d, %d, %d): %d, %t, want %d, %t", x.line, x.at, x.old, x.now, got, ok, x.want, x.ok)
		}
	}
}

func TestShiftOfNumbersThatNoReplacementHas(t *testing.T) {
	for _, wrong := range []int{-1, math.MinInt, most + 1, math.MaxInt} {
		for _, line := range numbers {
			for _, x := range [][3]int{{wrong, 1, 3}, {0, wrong, 3}, {0, 1, wrong}, {0, 9, wrong}, {wrong, wrong, wrong}} {
				if got, ok := marks.Shift(line, x[0], x[1], x[2]); got != line || !ok {
					t.Errorf("Shift(%d, %v): %d, %t", line, x, got, ok)
				}
			}
		}
	}
}

func TestShiftOfTheGreatestNumbers(t *testing.T) {
	for _, x := range []struct {
		line, at, old, now, want int
		ok                       bool
	}{
		{most, most, most, 0, 0, false},
		{2*most - 1, most, most, most - 1, 0, false},
		{2*most - 1, most, most, most, 2*most - 1, true},
		{2 * most, most, most, 0, most, true},
		{2 * most, most, most - 1, most, 2*most + 1, true},
		{most, 0, most, 0, 0, true},
		{most - 1, 0, most, 0, 0, false},
		{0, 0, 0, most, most, true},
		{math.MaxInt, most, most, 0, math.MaxInt - most, true},
		{math.MaxInt, 0, 0, 0, math.MaxInt, true},
		{math.MaxInt - most, 0, 0, most, math.MaxInt, true},
		{math.MaxInt - most + 1, 0, 0, most, math.MaxInt, true},
		{math.MaxInt, 0, 0, most, math.MaxInt, true},
		{math.MaxInt, 0, 1, 2, math.MaxInt, true},
	} {
		if got, ok := marks.Shift(x.line, x.at, x.old, x.now); got != x.want || ok != x.ok {
			t.Errorf("Shift(%d, %d, %d, %d): %d, %t, want %d, %t", x.line, x.at, x.old, x.now, got, ok, x.want, x.ok)
		}
	}
}

func TestShiftIsTheChapters(t *testing.T) {
	for _, line := range numbers {
		for _, from := range numbers {
			for _, old := range numbers {
				for _, now := range numbers {
					want, there := number(line, from, old, now)
					if got, ok := marks.Shift(line, from, old, now); got != want || ok != there {
						t.Fatalf("Shift(%d, %d, %d, %d): %d, %t, want %d, %t", line, from, old, now, got, ok, want, there)
					}
				}
			}
		}
	}
}

// P13.2: New, Set, Get, Adjust, Names.

func TestNew(t *testing.T) {
	m := marks.New()
	same(t, m, nil)
	m.Adjust(0, 1, 2)
	same(t, m, nil)
}

func TestEachNewIsApart(t *testing.T) {
	m, n := marks.New(), marks.New()
	m.Set('a', at(1, 2))
	n.Set('b', at(3, 4))
	m.Adjust(0, 0, 5)
	same(t, m, map[byte]api.Pos{'a': at(6, 2)})
	same(t, n, map[byte]api.Pos{'b': at(3, 4)})
}

func TestSetOfEveryName(t *testing.T) {
	for c := range 256 {
		m, set := marks.New(), map[byte]api.Pos{}
		want := bytes.IndexByte([]byte(valid), byte(c)) >= 0
		if want {
			set[byte(c)] = at(3, 4)
		}
		if ok := m.Set(byte(c), at(3, 4)); ok != want {
			t.Errorf("Set(%d): %t", c, ok)
		}
		same(t, m, set)
	}
}

func TestSetOfAWrongNameChangesNothing(t *testing.T) {
	m, set := made(7)
	for c := range 256 {
		if bytes.IndexByte([]byte(valid), byte(c)) < 0 && m.Set(byte(c), at(1, 1)) {
			t.Errorf("Set(%d)", c)
		}
	}
	same(t, m, set)
}

func TestSetOnceMore(t *testing.T) {
	m := marks.New()
	m.Set('a', at(1, 2))
	m.Set('b', at(1, 2))
	if !m.Set('a', at(0, 9)) {
		t.Error("Set of a mark that is set")
	}
	same(t, m, map[byte]api.Pos{'a': at(0, 9), 'b': at(1, 2)})
	m.Set('a', at(0, 0))
	same(t, m, map[byte]api.Pos{'a': at(0, 0), 'b': at(1, 2)})
}

func TestSetOfEveryPosition(t *testing.T) {
	for _, line := range numbers {
		for _, col := range numbers {
			m := marks.New()
			if !m.Set('q', at(line, col)) {
				t.Errorf("Set to %d, %d", line, col)
			}
			same(t, m, map[byte]api.Pos{'q': at(line, col)})
		}
	}
}

func TestNames(t *testing.T) {
	m := marks.New()
	for _, name := range []byte("za`") {
		m.Set(name, at(0, 0))
	}
	if got := string(m.Names()); got != "`az" {
		t.Errorf("Names: %q", got)
	}
}

func TestNamesOfEverySetOfAFew(t *testing.T) {
	few := "`abyz"
	for some := range 1 << len(few) {
		m, set := marks.New(), map[byte]api.Pos{}
		for i := len(few) - 1; i >= 0; i-- {
			if some>>i&1 == 1 {
				m.Set(few[i], at(i, some))
				set[few[i]] = at(i, some)
			}
		}
		same(t, m, set)
	}
}

func TestNamesAreTheCallers(t *testing.T) {
	m, set := made(0)
	names := m.Names()
	for i := range names {
		names[i] = 'A'
	}
	names = append(names[:0], 'x', 'x')
	same(t, m, set)
}

func TestAdjust(t *testing.T) {
	m := marks.New()
	m.Set('a', at(3, 1))
	m.Set('b', at(1, 2))
	m.Set('c', at(4, 3))
	m.Adjust(2, 2, 0)
	same(t, m, map[byte]api.Pos{'b': at(1, 2), 'c': at(2, 3)})
	m.Adjust(1, 1, 3)
	same(t, m, map[byte]api.Pos{'b': at(1, 2), 'c': at(4, 3)})
	if !m.Set('a', at(0, 0)) {
		t.Error("Set of a mark that was lost")
	}
	m.Adjust(0, 5, 0)
	same(t, m, nil)
}

func TestAdjustOfAllNumbers(t *testing.T) {
	for _, from := range numbers {
		for _, old := range numbers {
			for _, now := range numbers {
				for _, first := range []int{math.MinInt, -3, 0, most - 9, 2*most - 9, math.MaxInt - 26} {
					m, set := made(first)
					m.Adjust(from, old, now)
					same(t, m, adjusted(set, from, old, now))
				}
			}
		}
	}
}

func TestAdjustKeepsTheColumns(t *testing.T) {
	for _, col := range numbers {
		m := marks.New()
		m.Set('a', at(5, col))
		m.Set('b', at(0, col))
		m.Adjust(1, 2, 9)
		same(t, m, map[byte]api.Pos{'a': at(12, col), 'b': at(0, col)})
	}
}

func TestMarksAtOneLineStayTogether(t *testing.T) {
	m := marks.New()
	for i := range len(valid) {
		m.Set(valid[i], at(4, i))
	}
	m.Adjust(0, 0, 1)
	for i := range len(valid) {
		if p, ok := m.Get(valid[i]); p != at(5, i) || !ok {
			t.Errorf("Get(%q): %v, %t", valid[i], p, ok)
		}
	}
	m.Adjust(5, 1, 0)
	same(t, m, nil)
}

// P13.3: a mark stays at its line.

// step takes numbers from a fixed row, so that every run does the same.
type step uint32

func (s *step) next(n int) int {
	*s = *s*1664525 + 1013904223
	return int(*s>>8) % n
}

// Lines are told apart by numbers that no two of them ever share.
func TestAMarkStaysAtItsLine(t *testing.T) {
	s := step(13)
	for range 300 {
		var lines []int
		next := 0
		for range s.next(12) + 1 {
			lines, next = append(lines, next), next+1
		}
		m, home, cols := marks.New(), map[byte]int{}, map[byte]int{}
		for range 60 {
			name := valid[s.next(len(valid))]
			if i := s.next(len(lines) + 1); i < len(lines) {
				m.Set(name, at(i, next))
				home[name], cols[name] = lines[i], next
			}
			from := s.next(len(lines) + 1)
			old := s.next(min(4, len(lines)-from+1))
			now := s.next(4)
			m.Adjust(from, old, now)
			// The old lines that have a successor become it; the others go, or new ones come behind them.
			kept := min(old, now)
			var come []int
			for range now - kept {
				come, next = append(come, next), next+1
			}
			lines = slices.Concat(lines[:from+kept], come, lines[from+old:])
			set := map[byte]api.Pos{}
			for name, line := range home {
				if i := slices.Index(lines, line); i >= 0 {
					set[name] = at(i, cols[name])
				}
			}
			same(t, m, set)
			// A mark whose line is gone does not come back.
			for name := range home {
				if _, ok := set[name]; !ok {
					delete(home, name)
				}
			}
		}
	}
}
