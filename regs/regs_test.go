package regs_test

import (
	"bytes"
	"fmt"
	"math"
	"slices"
	"strings"
	"testing"

	"foolscap/api"
	"foolscap/regs"
)

// valid are the names of registers, in ascending order.
const valid = "\"-0123456789abcdefghijklmnopqrstuvwxyz"

// kinds are those of registers, and numbers that are no kind.
var kinds = []int{api.Char, api.Line, api.Block, 3, -1, math.MinInt, math.MaxInt}

// texts are lines that a register can have: none, empty ones, and bytes of all sorts.
var texts = [][]string{nil, {}, {""}, {"", ""}, {"a"}, {"ab", ""}, {"", "ab"}, {"a", "b", "c"}, {"\x00\xff", " \t\r"}, {"", "", ""}, {"Ä\xc3", "z"}}

func chars(lines ...string) api.Reg { return api.Reg{Kind: api.Char, Lines: lines} }

func whole(lines ...string) api.Reg { return api.Reg{Kind: api.Line, Lines: lines} }

func block(lines ...string) api.Reg { return api.Reg{Kind: api.Block, Lines: lines} }

// each goes through registers of all kinds and texts.
func each(yield func(api.Reg) bool) {
	for _, kind := range kinds {
		for _, lines := range texts {
			if !yield(api.Reg{Kind: kind, Lines: slices.Clone(lines)}) {
				return
			}
		}
	}
}

// of returns a text of this size in so many lines.
func of(size, lines int) []string {
	out := make([]string, lines)
	out[0] = strings.Repeat("x", size-lines)
	return out
}

func equal(a, b api.Reg) bool { return a.Kind == b.Kind && slices.Equal(a.Lines, b.Lines) }

// model is what registers hold, by the words of the chapter.
type model map[byte]api.Reg

// size is what the lines take, each with a line feed behind it.
func size(r api.Reg) int {
	n := 0
	for _, line := range r.Lines {
		n += len(line + "\n")
	}
	return n
}

// joined puts the texts of two Char registers together as one text with line feeds; no line may contain one.
func joined(a, b api.Reg) api.Reg {
	switch {
	case a.Kind != api.Char || b.Kind != api.Char:
		return whole(append(append([]string{}, a.Lines...), b.Lines...)...)
	case len(a.Lines) == 0:
		return chars(b.Lines...)
	case len(b.Lines) == 0:
		return chars(a.Lines...)
	}
	return chars(strings.Split(strings.Join(a.Lines, "\n")+strings.Join(b.Lines, "\n"), "\n")...)
}

func (m model) put(name byte, r api.Reg) api.Errno {
	small := bytes.ToLower([]byte{name})[0]
	if !strings.Contains("abcdefghijklmnopqrstuvwxyz", string(rune(small))) {
		return api.ErrName
	}
	if old, ok := m[small]; ok && small != name {
		r = joined(old, r)
	}
	if size(r) > api.MaxReg {
		return api.ErrFull
	}
	m[small] = r
	return api.OK
}

func (m model) yank(name byte, r api.Reg) api.Errno {
	if name == '_' {
		return api.OK
	}
	if name != 0 && name != '"' {
		e := m.put(name, r)
		if e == api.OK {
			m['"'] = m[bytes.ToLower([]byte{name})[0]]
		}
		return e
	}
	if size(r) > api.MaxReg {
		return api.ErrFull
	}
	m['0'], m['"'] = r, r
	return api.OK
}

func (m model) cut(name byte, r api.Reg) api.Errno {
	if name != 0 && name != '"' {
		return m.yank(name, r)
	}
	if size(r) > api.MaxReg {
		return api.ErrFull
	}
	m['"'] = r
	if r.Kind != api.Line && len(r.Lines) < 2 {
		m['-'] = r
		return api.OK
	}
	was := model{}
	for name, r := range m {
		was[name] = r
	}
	for _, name := range []byte("23456789") {
		if r, ok := was[name-1]; ok {
			m[name] = r
		}
	}
	m['1'] = r
	return api.OK
}

// same checks by every way of reading that exactly the registers of want are set.
func same(t *testing.T, f *regs.File, want model) {
	t.Helper()
	var names []byte
	for c := range 256 {
		name := byte(c)
		if name == 0 {
			name = '"'
		}
		if 'A' <= name && name <= 'Z' {
			name += 32
		}
		r, ok := want[name]
		if got, set := f.Get(byte(c)); set != ok || !equal(got, r) {
			t.Fatalf("Get(%d): %v, %t, want %v, %t", c, got, set, r, ok)
		}
		if _, ok := want[byte(c)]; ok {
			names = append(names, byte(c))
		}
	}
	if got := f.Names(); !bytes.Equal(got, names) {
		t.Fatalf("Names: %q, want %q", got, names)
	}
}

// call is one of Put, Yank and Cut.
type call struct {
	name string
	do   func(*regs.File, byte, api.Reg) api.Errno
	want func(model, byte, api.Reg) api.Errno
}

var calls = []call{
	{"Put", (*regs.File).Put, model.put},
	{"Yank", (*regs.File).Yank, model.yank},
	{"Cut", (*regs.File).Cut, model.cut},
}

// states lead from no register at all to registers that all are set.
var states = []func(f *regs.File, m model){
	func(f *regs.File, m model) {},
	func(f *regs.File, m model) {
		f.Put('a', chars("ab", "c"))
		m['a'] = chars("ab", "c")
	},
	func(f *regs.File, m model) {
		for i, c := range []byte("abcdefghijklmnopqrstuvwxyz") {
			r := api.Reg{Kind: i % 4, Lines: texts[i%len(texts)]}
			f.Put(c, r)
			m[c] = r
		}
		for _, r := range []api.Reg{whole("one"), whole(), block("two", "too"), chars("three", "")} {
			f.Cut(0, r)
			m.cut(0, r)
		}
	},
	func(f *regs.File, m model) {
		for i := range 26 {
			f.Put('a'+byte(i), whole(of(api.MaxReg, 1)...))
			m['a'+byte(i)] = whole(of(api.MaxReg, 1)...)
		}
		for i := range 9 {
			f.Cut(0, whole(fmt.Sprint(i)))
			m.cut(0, whole(fmt.Sprint(i)))
		}
		f.Cut(0, block("part"))
		m.cut(0, block("part"))
		f.Yank(0, chars("yanked"))
		m.yank(0, chars("yanked"))
	},
}

// state returns registers in one of the states, and what they hold.
func state(i int) (*regs.File, model) {
	f, m := regs.New(), model{}
	states[i](f, m)
	return f, m
}

// P19.1: Size, Join.

func TestSize(t *testing.T) {
	for _, x := range []struct {
		lines []string
		want  int
	}{
		{nil, 0}, {[]string{}, 0}, {[]string{""}, 1}, {[]string{"ab", ""}, 4}, {[]string{"a\n", "\xff\x00"}, 6}, {of(api.MaxReg, 7), api.MaxReg}, {of(1<<20, 1<<12), 1 << 20},
	} {
		for _, kind := range kinds {
			if got := regs.Size(api.Reg{Kind: kind, Lines: x.lines}); got != x.want {
				t.Errorf("Size of kind %d, %d lines: %d, want %d", kind, len(x.lines), got, x.want)
			}
		}
	}
}

func TestJoin(t *testing.T) {
	for _, x := range []struct{ a, b, want api.Reg }{
		{chars("a", "b"), chars("c", "d"), chars("a", "bc", "d")},
		{chars("a"), chars("b"), chars("ab")},
		{chars("a", ""), chars("b"), chars("a", "b")},
		{chars("a"), chars("", "b"), chars("a", "b")},
		{chars(""), chars(""), chars("")},
		{chars("", ""), chars("", ""), chars("", "", "")},
		{chars(), chars("a", "b"), chars("a", "b")},
		{chars("a", "b"), chars(), chars("a", "b")},
		{chars(), chars(), chars()},
		{chars(), chars(""), chars("")},
		{chars("a\n", "\n"), chars("\n", "b"), chars("a\n", "\n\n", "b")},
		{whole("a"), whole("b"), whole("a", "b")},
		{whole("a"), chars("b", "c"), whole("a", "b", "c")},
		{chars("a", "b"), whole("c"), whole("a", "b", "c")},
		{chars(), whole("c"), whole("c")},
		{whole(), chars(), whole()},
		{block("a"), block("b"), whole("a", "b")},
		{block("a"), chars("b"), whole("a", "b")},
		{chars("a"), block("b"), whole("a", "b")},
		{block(), block(), whole()},
		{api.Reg{Kind: 7, Lines: []string{"a"}}, chars("b"), whole("a", "b")},
		{chars("a"), api.Reg{Kind: -1}, whole("a")},
	} {
		if got := regs.Join(x.a, x.b); !equal(got, x.want) {
			t.Errorf("Join(%v, %v): %v, want %v", x.a, x.b, got, x.want)
		}
	}
}

func TestJoinIsTheChapters(t *testing.T) {
	for a := range each {
		for b := range each {
			if got, want := regs.Join(a, b), joined(a, b); !equal(got, want) {
				t.Errorf("Join(%v, %v): %v, want %v", a, b, got, want)
			}
		}
	}
}

func TestJoinHasNoLimit(t *testing.T) {
	a, b := of(3*api.MaxReg, 1000), of(2*api.MaxReg, 500)
	if got := regs.Join(chars(a...), chars(b...)); regs.Size(got) != 5*api.MaxReg-1 || len(got.Lines) != 1499 {
		t.Errorf("Join: %d bytes, %d lines", regs.Size(got), len(got.Lines))
	}
	if got := regs.Join(whole(a...), chars(b...)); regs.Size(got) != 5*api.MaxReg || len(got.Lines) != 1500 {
		t.Errorf("Join: %d bytes, %d lines", regs.Size(got), len(got.Lines))
	}
}

func TestJoinLeavesItsArgumentsAlone(t *testing.T) {
	for _, kind := range []int{api.Char, api.Line} {
		for from := range 4 {
			for with := range 4 {
				room, other := []string{"a", "b", "c", "d", "e"}, []string{"v", "w", "x", "y", "z"}
				got := regs.Join(api.Reg{Kind: kind, Lines: room[:from]}, chars(other[:with]...))
				for i := range got.Lines {
					got.Lines[i] = "!"
				}
				got.Lines = append(got.Lines, "!")
				if strings.Join(room, "") != "abcde" || strings.Join(other, "") != "vwxyz" {
					t.Errorf("Join of %d and %d lines of kind %d: %v, %v", from, with, kind, room, other)
				}
			}
		}
	}
}

// P19.2: New, Put, Yank, Cut.

func TestNew(t *testing.T) {
	same(t, regs.New(), nil)
}

func TestEachNewIsApart(t *testing.T) {
	f, g := regs.New(), regs.New()
	f.Put('a', chars("f"))
	g.Cut(0, whole("g"))
	same(t, f, model{'a': chars("f")})
	same(t, g, model{'"': whole("g"), '1': whole("g")})
}

func TestPut(t *testing.T) {
	f := regs.New()
	for _, x := range []struct {
		name byte
		r    api.Reg
		want api.Errno
	}{
		{'-', chars("x"), api.ErrName},
		{'a', chars("a"), api.OK},
		{'A', chars("b", "c"), api.OK},
		{'B', block("d"), api.OK},
		{'c', block("e"), api.OK},
		{'C', chars("f"), api.OK},
		{'d', chars("gone"), api.OK},
		{'d', whole(), api.OK},
		{'e', chars(), api.OK},
		{'E', chars("h"), api.OK},
		{'f', whole(), api.OK},
		{'F', chars("i", "j"), api.OK},
		{'z', api.Reg{Kind: 9, Lines: []string{"k\nl"}}, api.OK},
		{0, chars("x"), api.ErrName},
		{'"', chars("x"), api.ErrName},
		{'_', chars("x"), api.ErrName},
		{'0', chars("x"), api.ErrName},
	} {
		if got := f.Put(x.name, x.r); got != x.want {
			t.Errorf("Put(%q, %v): %v, want %v", x.name, x.r, got, x.want)
		}
	}
	same(t, f, model{'a': chars("ab", "c"), 'b': block("d"), 'c': whole("e", "f"), 'd': whole(), 'e': chars("h"), 'f': whole("i", "j"), 'z': {Kind: 9, Lines: []string{"k\nl"}}})
}

func TestYank(t *testing.T) {
	f := regs.New()
	for _, x := range []struct {
		name byte
		r    api.Reg
		e    api.Errno
		want model
	}{
		{'a', chars("A"), api.OK, model{'a': chars("A"), '"': chars("A")}},
		{0, whole("B"), api.OK, model{'a': chars("A"), '"': whole("B"), '0': whole("B")}},
		{'_', chars("C"), api.OK, model{'a': chars("A"), '"': whole("B"), '0': whole("B")}},
		{'A', chars("D"), api.OK, model{'a': chars("AD"), '"': chars("AD"), '0': whole("B")}},
		{'"', chars(), api.OK, model{'a': chars("AD"), '"': chars(), '0': chars()}},
		{'B', block("E"), api.OK, model{'a': chars("AD"), 'b': block("E"), '"': block("E"), '0': chars()}},
		{'1', chars("F"), api.ErrName, model{'a': chars("AD"), 'b': block("E"), '"': block("E"), '0': chars()}},
		{'0', chars("F"), api.ErrName, model{'a': chars("AD"), 'b': block("E"), '"': block("E"), '0': chars()}},
		{'-', chars("F"), api.ErrName, model{'a': chars("AD"), 'b': block("E"), '"': block("E"), '0': chars()}},
	} {
		if e := f.Yank(x.name, x.r); e != x.e {
			t.Errorf("Yank(%q, %v): %v, want %v", x.name, x.r, e, x.e)
		}
		same(t, f, x.want)
	}
}

func TestCut(t *testing.T) {
	f := regs.New()
	for _, x := range []struct {
		name byte
		r    api.Reg
		e    api.Errno
		want model
	}{
		{0, whole("A"), api.OK, model{'"': whole("A"), '1': whole("A")}},
		{'"', whole("B"), api.OK, model{'"': whole("B"), '1': whole("B"), '2': whole("A")}},
		{0, chars("C"), api.OK, model{'"': chars("C"), '-': chars("C"), '1': whole("B"), '2': whole("A")}},
		{'"', chars("D", ""), api.OK, model{'"': chars("D", ""), '-': chars("C"), '1': chars("D", ""), '2': whole("B"), '3': whole("A")}},
		{0, block("E"), api.OK, model{'"': block("E"), '-': block("E"), '1': chars("D", ""), '2': whole("B"), '3': whole("A")}},
		{0, chars(), api.OK, model{'"': chars(), '-': chars(), '1': chars("D", ""), '2': whole("B"), '3': whole("A")}},
		{'_', whole("F"), api.OK, model{'"': chars(), '-': chars(), '1': chars("D", ""), '2': whole("B"), '3': whole("A")}},
		{'9', whole("F"), api.ErrName, model{'"': chars(), '-': chars(), '1': chars("D", ""), '2': whole("B"), '3': whole("A")}},
		{'-', chars("F"), api.ErrName, model{'"': chars(), '-': chars(), '1': chars("D", ""), '2': whole("B"), '3': whole("A")}},
		{'q', whole("G"), api.OK, model{'"': whole("G"), 'q': whole("G"), '-': chars(), '1': chars("D", ""), '2': whole("B"), '3': whole("A")}},
		{'Q', chars("H"), api.OK, model{'"': whole("G", "H"), 'q': whole("G", "H"), '-': chars(), '1': chars("D", ""), '2': whole("B"), '3': whole("A")}},
		{0, whole(), api.OK, model{'"': whole(), 'q': whole("G", "H"), '-': chars(), '1': whole(), '2': chars("D", ""), '3': whole("B"), '4': whole("A")}},
		{0, block("I", "J"), api.OK, model{'"': block("I", "J"), 'q': whole("G", "H"), '-': chars(), '1': block("I", "J"), '2': whole(), '3': chars("D", ""), '4': whole("B"), '5': whole("A")}},
	} {
		if e := f.Cut(x.name, x.r); e != x.e {
			t.Errorf("Cut(%q, %v): %v, want %v", x.name, x.r, e, x.e)
		}
		same(t, f, x.want)
	}
}

// large are texts below, at and above the limit, in one line and in many.
var large = []api.Reg{
	whole(of(api.MaxReg-1, 1)...), whole(of(api.MaxReg, 1)...), whole(of(api.MaxReg+1, 1)...), chars(of(api.MaxReg-1, 2)...), chars(of(api.MaxReg, api.MaxReg)...),
	chars(of(api.MaxReg+1, api.MaxReg+1)...), chars(of(api.MaxReg, 1)...), chars(of(api.MaxReg+1, 1)...), block(of(2*api.MaxReg, 3)...), block(of(1<<20, 1)...),
}

func TestEveryCallIsTheChapters(t *testing.T) {
	for i := range states {
		for _, c := range calls {
			for name := range 256 {
				check := func(r api.Reg) {
					f, m := state(i)
					e, want := c.do(f, byte(name), r), c.want(m, byte(name), r)
					if e != want {
						t.Fatalf("state %d: %s(%d, %v): %v, want %v", i, c.name, name, r, e, want)
					}
					same(t, f, m)
				}
				for _, r := range []api.Reg{chars(), chars("x"), chars("x", "y"), whole(), whole("x"), block("x"), block("x", "y"), {Kind: -1, Lines: []string{"x"}}, large[2], large[7]} {
					check(r)
				}
			}
		}
	}
}

func TestEveryTextIsKept(t *testing.T) {
	for i := range states {
		for _, c := range calls {
			for _, name := range []byte("\x00\"_azAZ0-") {
				for r := range each {
					f, m := state(i)
					if e, want := c.do(f, name, r), c.want(m, name, r); e != want {
						t.Fatalf("state %d: %s(%d, %v): %v, want %v", i, c.name, name, r, e, want)
					}
					same(t, f, m)
				}
			}
		}
	}
}

func TestTheLimit(t *testing.T) {
	for i := range states {
		for _, c := range calls {
			for _, name := range []byte("\x00\"_amzAMZ1-") {
				for j, r := range large {
					f, m := state(i)
					if e, want := c.do(f, name, r), c.want(m, name, r); e != want {
						t.Fatalf("state %d: %s(%d, large text %d): %v, want %v", i, c.name, name, j, e, want)
					}
					same(t, f, m)
				}
			}
		}
	}
}

func TestTheLimitOfWhatIsJoined(t *testing.T) {
	for _, x := range []struct {
		old, r api.Reg
		want   api.Errno
	}{
		{chars(of(api.MaxReg-1, 1)...), chars("x"), api.OK},
		{chars(of(api.MaxReg, 1)...), chars(""), api.OK},
		{chars(of(api.MaxReg, 1)...), chars(), api.OK},
		{chars(of(api.MaxReg, 1)...), chars("x"), api.ErrFull},
		{chars(of(api.MaxReg, 1)...), chars("", ""), api.ErrFull},
		{chars(of(api.MaxReg, 9)...), chars("x"), api.ErrFull},
		{chars(""), chars(of(api.MaxReg, 9)...), api.OK},
		{chars("x"), chars(of(api.MaxReg, 9)...), api.ErrFull},
		{chars(), chars(of(api.MaxReg+1, 9)...), api.ErrFull},
		{whole(of(api.MaxReg-1, 1)...), chars(""), api.OK},
		{whole(of(api.MaxReg, 1)...), chars(), api.OK},
		{whole(of(api.MaxReg, 1)...), chars(""), api.ErrFull},
		{chars(of(api.MaxReg-2, 1)...), block("x"), api.OK},
		{chars(of(api.MaxReg-1, 1)...), block("x"), api.ErrFull},
	} {
		for _, c := range calls {
			f := regs.New()
			f.Put('b', whole("beside"))
			f.Put('a', x.old)
			want := model{'b': whole("beside"), 'a': x.old}
			if x.want == api.OK {
				want['a'] = joined(x.old, x.r)
			}
			if x.want == api.OK && c.name != "Put" {
				want['"'] = want['a']
			}
			if e := c.do(f, 'A', x.r); e != x.want {
				t.Errorf("%s of %d lines to %d: %v, want %v", c.name, len(x.r.Lines), len(x.old.Lines), e, x.want)
			}
			same(t, f, want)
		}
	}
}

func TestAWrongNameComesBeforeTheLimit(t *testing.T) {
	f := regs.New()
	for _, c := range calls {
		if e := c.do(f, '5', whole(of(api.MaxReg+1, 1)...)); e != api.ErrName {
			t.Errorf("%s: %v", c.name, e)
		}
	}
	same(t, f, nil)
}

func TestNothingIsStoredNowhere(t *testing.T) {
	f := regs.New()
	for _, r := range large {
		if e := f.Yank('_', r); e != api.OK {
			t.Errorf("Yank: %v", e)
		}
		if e := f.Cut('_', r); e != api.OK {
			t.Errorf("Cut: %v", e)
		}
	}
	same(t, f, nil)
}

func TestArgumentsAreNotKept(t *testing.T) {
	for _, c := range calls {
		for _, name := range []byte("\x00aA") {
			for _, kind := range []int{api.Char, api.Line} {
				f, m := state(1)
				room := []string{"x", "y", "spare", "spare"}
				e := c.do(f, name, api.Reg{Kind: kind, Lines: room[:2]})
				if want := c.want(m, name, api.Reg{Kind: kind, Lines: []string{"x", "y"}}); e != want {
					t.Errorf("%s: %v, want %v", c.name, e, want)
				}
				if strings.Join(room, " ") != "x y spare spare" {
					t.Errorf("%s(%d) changed its argument: %v", c.name, name, room)
				}
				clear(room)
				same(t, f, m)
			}
		}
	}
}

// step takes numbers from a fixed row, so that every run does the same.
type step uint32

func (s *step) next(n int) int {
	*s = *s*1664525 + 1013904223
	return int(*s>>8) % n
}

func TestLongRowsOfMixedCalls(t *testing.T) {
	s := step(19)
	often := "\x00\x00\x00\"\"aaAAbBzZ_-019"
	for range 60 {
		f, m := regs.New(), model{}
		for range 200 {
			name := often[s.next(len(often))]
			if s.next(9) == 0 {
				name = byte(s.next(256))
			}
			r := api.Reg{Kind: kinds[s.next(4)], Lines: texts[s.next(len(texts))]}
			if s.next(6) == 0 {
				r.Lines = of(800+s.next(4)*api.MaxReg/3, 1+s.next(3))
			}
			c := calls[s.next(len(calls))]
			if e, want := c.do(f, name, r), c.want(m, name, r); e != want {
				t.Fatalf("%s(%d, %v): %v, want %v", c.name, name, r, e, want)
			}
			same(t, f, m)
		}
	}
}

// P19.3: Get, Names.

func TestGet(t *testing.T) {
	f := regs.New()
	f.Put('b', chars("b"))
	f.Yank('a', block("a", ""))
	for _, x := range []struct {
		name byte
		want api.Reg
		ok   bool
	}{
		{'a', block("a", ""), true}, {'A', block("a", ""), true}, {'b', chars("b"), true}, {'B', chars("b"), true},
		{0, block("a", ""), true}, {'"', block("a", ""), true}, {'0', api.Reg{}, false}, {'c', api.Reg{}, false}, {'C', api.Reg{}, false},
		{'-', api.Reg{}, false}, {'_', api.Reg{}, false}, {'1', api.Reg{}, false}, {'@', api.Reg{}, false}, {'[', api.Reg{}, false}, {'`', api.Reg{}, false}, {255, api.Reg{}, false},
	} {
		if got, ok := f.Get(x.name); ok != x.ok || !equal(got, x.want) {
			t.Errorf("Get(%q): %v, %t, want %v, %t", x.name, got, ok, x.want, x.ok)
		}
	}
}

func TestGetOfARegisterWithoutLines(t *testing.T) {
	for r := range each {
		if len(r.Lines) > 0 {
			continue
		}
		f := regs.New()
		f.Put('a', r)
		if got, ok := f.Get('a'); !ok || !equal(got, r) {
			t.Errorf("Get: %v, %t, want %v", got, ok, r)
		}
		if string(f.Names()) != "a" {
			t.Errorf("Names: %q", f.Names())
		}
	}
}

func TestWhatGetReturnsIsTheCallers(t *testing.T) {
	f, m := state(2)
	f.Yank(0, chars("x", "y"))
	m.yank(0, chars("x", "y"))
	for range 2 {
		for name := range 256 {
			r, _ := f.Get(byte(name))
			for i := range r.Lines {
				r.Lines[i] = "changed"
			}
			_ = append(r.Lines, "more")
			same(t, f, m)
		}
	}
}

func TestWhatGetReturnsStays(t *testing.T) {
	f := regs.New()
	f.Cut(0, whole("a", "b"))
	r, _ := f.Get('1')
	f.Cut(0, whole("c", "d"))
	f.Yank('q', chars("e"))
	if !equal(r, whole("a", "b")) {
		t.Errorf("Get: %v", r)
	}
}

func TestNames(t *testing.T) {
	f := regs.New()
	for _, name := range []byte("zaM") {
		f.Put(name, chars("x"))
	}
	if got := string(f.Names()); got != "amz" {
		t.Errorf("Names: %q", got)
	}
	f.Cut(0, chars("x"))
	f.Cut(0, whole("x"))
	f.Yank(0, chars("x"))
	f.Cut(0, whole("x"))
	if got := string(f.Names()); got != "\"-012amz" {
		t.Errorf("Names: %q", got)
	}
}

func TestNamesOfAll(t *testing.T) {
	f, _ := state(3)
	if got := string(f.Names()); got != valid {
		t.Errorf("Names: %q", got)
	}
}

func TestNamesAreTheCallers(t *testing.T) {
	f, m := state(3)
	names := f.Names()
	for i := range names {
		names[i] = 'A'
	}
	_ = append(names[:0], 'x', 'x')
	same(t, f, m)
}

// P19.4: register 1 has the lines that were deleted last, register 2 those before.

func TestTheRowOfDeletedLines(t *testing.T) {
	f := regs.New()
	var row []api.Reg
	for i := range 30 {
		r := api.Reg{Kind: i % 3, Lines: []string{fmt.Sprint(i), ""}}
		if i%5 == 0 {
			r = whole(fmt.Sprint(i))
		}
		// None of these is a deletion of lines without a name.
		f.Cut(0, chars("part"))
		f.Cut('a', whole("named"))
		f.Cut('_', whole("gone"))
		f.Yank(0, whole("copied"))
		f.Put('B', whole("put"))
		f.Cut(0, whole(of(api.MaxReg+1, 1)...))
		f.Cut('3', whole("wrong"))
		if e := f.Cut([]byte{0, '"'}[i%2], r); e != api.OK {
			t.Fatalf("Cut: %v", e)
		}
		row = append([]api.Reg{r}, row...)
		for j := range 9 {
			got, ok := f.Get('1' + byte(j))
			if ok != (j < len(row)) || ok && !equal(got, row[j]) {
				t.Errorf("after %d deletions, register %d: %v, %t", i+1, j+1, got, ok)
			}
		}
	}
}
