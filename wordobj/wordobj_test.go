package wordobj_test

import (
	"fmt"
	"iter"
	"math"
	"regexp"
	"slices"
	"strings"
	"testing"

	"foolscap/api"
	"foolscap/wordobj"
)

// special lines have bytes of all classes at their edges; blanks of both kinds; and bytes that are no letters.
var special = []string{
	"ab  c.d  e", "  ab  c.d  e  ", "a.b.c d", " \t \t", "\ta\t", "aZ_09", "@[`{/:", "a@Z[_`z{0/9:",
	"\x00\xff\x00", "\xc3\xa9-\xc3", "a\nb\ra", "a\vb\fc\u00a0d\u0085e",
}

// counts are below, at and above those that the lines have runs for.
var counts = []int{math.MinInt, -1, 0, 1, 2, 3, 4, 5, 6, 7, 8, 9999, api.End, api.End + 1, 1 << 62, math.MaxInt}

var sizes = []bool{false, true}

func at(line, col int) api.Pos { return api.Pos{Line: line, Col: col} }

// all yields the special lines, and all lines of at most six bytes over a byte of each class.
func all(yield func(string) bool) {
	for _, line := range special {
		if !yield(line) {
			return
		}
	}
	lines := []string{""}
	for i := 0; i < len(lines); i++ {
		if !yield(lines[i]) {
			return
		}
		for _, c := range "a. " {
			if len(lines[i]) < 6 {
				lines = append(lines, lines[i]+string(c))
			}
		}
	}
}

// letters are the bytes below 128 that are of class 1.
const letters = "abcdefghijklmnopqrstuvwxyzABCDEFGHIJKLMNOPQRSTUVWXYZ0123456789_"

// classes writes a line with w, o or a space for each byte.
func classes(line string) string {
	out := []byte(line)
	for i, c := range out {
		switch {
		case c == ' ' || c == '\t':
			out[i] = ' '
		case c >= 128 || strings.IndexByte(letters, c) >= 0:
			out[i] = 'w'
		default:
			out[i] = 'o'
		}
	}
	return string(out)
}

var (
	smallRun = regexp.MustCompile(` +|w+|o+`)
	bigRun   = regexp.MustCompile(` +|[wo]+`)
)

// model gives where the runs of a line begin and have ended, and writes a b for each run of blanks, a w for each other one.
func model(line string, big bool) (runs [][]int, kinds string) {
	form := smallRun
	if big {
		form = bigRun
	}
	of := classes(line)
	runs = form.FindAllStringIndex(of, -1)
	for _, r := range runs {
		if of[r[0]] == ' ' {
			kinds += "b"
		} else {
			kinds += "w"
		}
	}
	return runs, kinds
}

// holding gives the index of the run that contains a column, or -1.
func holding(runs [][]int, col int) int {
	return slices.IndexFunc(runs, func(r []int) bool { return r[0] <= col && col < r[1] })
}

// answer is what a function of an object answers.
type answer struct {
	r  api.Range
	ok bool
}

func of(r api.Range, ok bool) answer { return answer{r, ok} }

// cols is the answer of columns of a line.
func cols(line, from, to int) answer {
	return answer{api.Range{Kind: api.Char, From: at(line, from), To: at(line, to)}, true}
}

// modelInner says the chapter's words of Inner, of a line that stands alone.
func modelInner(line string, col, n int, big bool) answer {
	runs, _ := model(line, big)
	i := holding(runs, col)
	if i < 0 || n < 1 || n > len(runs) || i+n > len(runs) {
		return answer{}
	}
	return cols(0, runs[i][0], runs[i+n-1][1])
}

// modelAround says the chapter's words of Around, of a line that stands alone.
func modelAround(line string, col, n int, big bool) answer {
	runs, kinds := model(line, big)
	i := holding(runs, col)
	if i < 0 || n < 1 || n > len(runs) {
		return answer{}
	}
	group := "wb?"
	if kinds[i] == 'b' {
		group = "b?w"
	}
	groups := regexp.MustCompile(fmt.Sprintf("^(%s){%d}", group, n)).FindString(kinds[i:])
	if groups == "" {
		return answer{}
	}
	last := i + len(groups) - 1
	if kinds[i] == 'w' && kinds[last] == 'w' && strings.HasSuffix(kinds[:i], "b") {
		i--
	}
	return cols(0, runs[i][0], runs[last][1])
}

// P15.1: Runs.

func told(s iter.Seq2[int, int]) string {
	var out []string
	for from, to := range s {
		out = append(out, fmt.Sprintf("%d %d", from, to))
	}
	return strings.Join(out, ", ")
}

func TestRunsExamples(t *testing.T) {
	for _, x := range []struct {
		line string
		big  bool
		want string
	}{
		{"ab  c.d", true, "0 2, 2 4, 4 7"},
		{"ab  c.d", false, "0 2, 2 4, 4 5, 5 6, 6 7"},
		{"ab cd", false, "0 2, 2 3, 3 5"},
		{"", false, ""},
		{"", true, ""},
		{"a", false, "0 1"},
		{" ", true, "0 1"},
		{" \t ", false, "0 3"},
		{"\ta ", true, "0 1, 1 2, 2 3"},
		{"é_9.", false, "0 4, 4 5"},
		{"é_9.", true, "0 5"},
	} {
		if got := told(wordobj.Runs(x.line, x.big)); got != x.want {
			t.Errorf("Runs(%q, %t): %q, want %q", x.line, x.big, got, x.want)
		}
	}
}

func checkRuns(t *testing.T, line string, big bool) {
	t.Helper()
	var want []string
	runs, _ := model(line, big)
	for _, r := range runs {
		want = append(want, fmt.Sprintf("%d %d", r[0], r[1]))
	}
	if got := told(wordobj.Runs(line, big)); got != strings.Join(want, ", ") {
		t.Fatalf("Runs(%q, %t): %q, want %q", line, big, got, want)
	}
}

func TestRuns(t *testing.T) {
	for line := range all {
		for _, big := range sizes {
			checkRuns(t, line, big)
		}
	}
}

// Every byte stands beside every other one.
func TestRunsOfAllBytes(t *testing.T) {
	for a := range 256 {
		for b := range 256 {
			for _, big := range sizes {
				checkRuns(t, string([]byte{byte(a), byte(b)}), big)
			}
		}
	}
}

func TestRunsStopWithTheConsumer(t *testing.T) {
	const line = "ab  c.d  e"
	whole := strings.Split(told(wordobj.Runs(line, false)), ", ")
	for n := range len(whole) {
		var got []string
		// To yield again after the consumer stops would panic.
		for from, to := range wordobj.Runs(line, false) {
			got = append(got, fmt.Sprintf("%d %d", from, to))
			if len(got) == n+1 {
				break
			}
		}
		if !slices.Equal(got, whole[:n+1]) {
			t.Errorf("stopped at %d: %v, want %v", n+1, got, whole[:n+1])
		}
	}
}

func TestRunsBeginAgain(t *testing.T) {
	s := wordobj.Runs("a. b", false)
	for range s {
		break
	}
	n := 0
	for range s {
		n++
		if got := told(s); got != "0 1, 1 2, 2 3, 3 4" {
			t.Errorf("%q", got)
		}
	}
	if n != 4 {
		t.Errorf("%d runs", n)
	}
}

// P15.1: Inner. P15.2: Around.

func TestInnerExamples(t *testing.T) {
	l := []string{"ab  c.d  e", "", "x", "  "}
	for _, x := range []struct {
		p    api.Pos
		n    int
		big  bool
		want answer
	}{
		{at(0, 4), 3, false, cols(0, 4, 7)},
		{at(0, 0), 1, false, cols(0, 0, 2)},
		{at(0, 1), 1, false, cols(0, 0, 2)},
		// Blanks are runs too, and count.
		{at(0, 2), 1, false, cols(0, 2, 4)},
		{at(0, 3), 2, false, cols(0, 2, 5)},
		{at(0, 5), 1, false, cols(0, 5, 6)},
		{at(0, 5), 1, true, cols(0, 4, 7)},
		{at(0, 5), 3, true, cols(0, 4, 10)},
		{at(0, 5), 4, true, answer{}},
		{at(0, 0), 7, false, cols(0, 0, 10)},
		// Runs of the next line don't count.
		{at(0, 0), 8, false, answer{}},
		{at(0, 9), 2, false, answer{}},
		{at(2, 0), 1, false, cols(2, 0, 1)},
		{at(2, 0), 2, false, answer{}},
		{at(3, 1), 1, true, cols(3, 0, 2)},
		{at(1, 0), 1, false, answer{}},
	} {
		if got := of(wordobj.Inner(l, x.p, x.n, x.big)); got != x.want {
			t.Errorf("Inner from %v, %d, %t: %v, want %v", x.p, x.n, x.big, got, x.want)
		}
	}
}

func TestAroundExamples(t *testing.T) {
	l := []string{"ab  c.d  e", "", "x", "  ", " a.b c ", "ab cd"}
	for _, x := range []struct {
		p    api.Pos
		n    int
		big  bool
		want answer
	}{
		{at(0, 1), 1, false, cols(0, 0, 4)},
		{at(0, 4), 1, false, cols(0, 2, 5)},
		{at(5, 0), 1, false, cols(5, 0, 3)},
		// The run before is not of blanks: it stays out.
		{at(0, 5), 1, false, cols(0, 5, 6)},
		{at(0, 6), 1, false, cols(0, 6, 9)},
		{at(0, 6), 2, false, cols(0, 6, 10)},
		// Not the last group's blanks, and none before the first group.
		{at(0, 0), 2, false, cols(0, 0, 5)},
		// Blanks of a group in the middle are not the last group's.
		{at(0, 4), 4, false, cols(0, 2, 10)},
		{at(0, 4), 3, false, cols(0, 4, 9)},
		{at(0, 4), 5, false, answer{}},
		{at(0, 4), 1, true, cols(0, 4, 9)},
		{at(0, 9), 1, true, cols(0, 7, 10)},
		// From blanks on: a group has blanks only where there are some.
		{at(0, 2), 1, false, cols(0, 2, 5)},
		{at(0, 3), 2, false, cols(0, 2, 6)},
		{at(0, 3), 4, false, cols(0, 2, 10)},
		{at(0, 3), 5, false, answer{}},
		{at(0, 3), 2, true, cols(0, 2, 10)},
		{at(4, 0), 1, false, cols(4, 0, 2)},
		{at(4, 0), 3, false, cols(4, 0, 4)},
		{at(4, 1), 3, false, cols(4, 1, 5)},
		{at(4, 1), 2, false, cols(4, 0, 3)},
		{at(4, 1), 2, true, cols(4, 1, 7)},
		// Blanks at the line's end are followed by no word, not even one of the next line.
		{at(4, 6), 1, false, answer{}},
		{at(3, 0), 1, false, answer{}},
		{at(2, 0), 1, false, cols(2, 0, 1)},
		{at(2, 0), 2, false, answer{}},
		{at(1, 0), 1, false, answer{}},
	} {
		if got := of(wordobj.Around(l, x.p, x.n, x.big)); got != x.want {
			t.Errorf("Around from %v, %d, %t: %v, want %v", x.p, x.n, x.big, got, x.want)
		}
	}
}

// columns gives every column of a line, and those beyond its edges.
func columns(line string) []int {
	out := []int{math.MinInt, -1, api.End, math.MaxInt}
	for col := range len(line) + 2 {
		out = append(out, col)
	}
	return out
}

// checkObjects holds both objects from every column of a line, by every count, against what the models say of them.
func checkObjects(t *testing.T, line string, big bool) {
	t.Helper()
	for _, col := range columns(line) {
		for _, n := range counts {
			if got, want := of(wordobj.Inner([]string{line}, at(0, col), n, big)), modelInner(line, col, n, big); got != want {
				t.Fatalf("Inner(%q, %d, %d, %t): %v, want %v", line, col, n, big, got, want)
			}
			if got, want := of(wordobj.Around([]string{line}, at(0, col), n, big)), modelAround(line, col, n, big); got != want {
				t.Fatalf("Around(%q, %d, %d, %t): %v, want %v", line, col, n, big, got, want)
			}
		}
	}
}

func TestObjects(t *testing.T) {
	for line := range all {
		for _, big := range sizes {
			checkObjects(t, line, big)
		}
	}
}

// The lines beside that of p change nothing but the number of its line.
func TestObjectsStayInTheirLine(t *testing.T) {
	for _, line := range special {
		lines := []string{"z ", " z", line, "z", " z"}
		for col := range len(line) {
			for n := 1; n < 8; n++ {
				inner, around := modelInner(line, col, n, false), modelAround(line, col, n, false)
				for _, want := range []*answer{&inner, &around} {
					if want.ok {
						want.r.From.Line, want.r.To.Line = 2, 2
					}
				}
				if got := of(wordobj.Inner(lines, at(2, col), n, false)); got != inner {
					t.Errorf("Inner(%q, %d, %d): %v, want %v", lines, col, n, got, inner)
				}
				if got := of(wordobj.Around(lines, at(2, col), n, false)); got != around {
					t.Errorf("Around(%q, %d, %d): %v, want %v", lines, col, n, got, around)
				}
			}
		}
	}
}

// Where p is no byte's position, there is no object.
func TestObjectsOfNoPosition(t *testing.T) {
	for _, lines := range [][]string{nil, {}, {""}, {"", ""}, {"ab c", "", " d"}} {
		places := []api.Pos{at(-1, 0), at(math.MinInt, 0), at(len(lines), 0), at(math.MaxInt, 0), at(math.MaxInt, math.MinInt)}
		for i, line := range lines {
			places = append(places, at(i, -1), at(i, math.MinInt), at(i, len(line)), at(i, len(line)+1), at(i, api.End), at(i, math.MaxInt))
		}
		for _, p := range places {
			for _, big := range sizes {
				if got := of(wordobj.Inner(lines, p, 1, big)); got != (answer{}) {
					t.Errorf("Inner(%q, %v, 1, %t): %v", lines, p, big, got)
				}
				if got := of(wordobj.Around(lines, p, 1, big)); got != (answer{}) {
					t.Errorf("Around(%q, %v, 1, %t): %v", lines, p, big, got)
				}
			}
		}
	}
}

func TestManyRuns(t *testing.T) {
	l := []string{strings.Repeat("a.  ", 20000) + "z"}
	for i, x := range []struct{ got, want answer }{
		{of(wordobj.Inner(l, at(0, 0), 60001, false)), cols(0, 0, 80001)},
		{of(wordobj.Inner(l, at(0, 0), 60002, false)), answer{}},
		{of(wordobj.Inner(l, at(0, 80000), 1, true)), cols(0, 80000, 80001)},
		{of(wordobj.Around(l, at(0, 1), 20000, true)), cols(0, 0, 80000)},
		{of(wordobj.Around(l, at(0, 5), 20000, true)), cols(0, 2, 80001)},
		{of(wordobj.Around(l, at(0, 5), 20001, true)), answer{}},
		{of(wordobj.Around(l, at(0, 3), 39999, false)), cols(0, 2, 80001)},
		{of(wordobj.Around(l, at(0, 3), 40000, false)), answer{}},
	} {
		if x.got != x.want {
			t.Errorf("%d: %v, want %v", i, x.got, x.want)
		}
	}
}

func TestArgumentsAreLeftAlone(t *testing.T) {
	whole := []string{"a. b", "", "c", "d"}
	lines := whole[:2]
	for _, p := range []api.Pos{at(0, 0), at(0, 2), at(1, 0), at(2, 0), at(3, 0)} {
		inner, around := of(wordobj.Inner(lines, p, 1, false)), of(wordobj.Around(lines, p, 1, true))
		// The lines behind the last one are not the argument's.
		if p.Line > 0 && (inner.ok || around.ok) {
			t.Errorf("%v: %v, %v", p, inner, around)
		}
	}
	if !slices.Equal(whole, []string{"a. b", "", "c", "d"}) {
		t.Errorf("the arguments are now %q", whole)
	}
}

// P15.3: the runs of a line together are the line, each of one class, and no two beside one another of the same.
func TestRunsAreTheLine(t *testing.T) {
	for line := range all {
		for _, big := range sizes {
			whole, before := "", ""
			for from, to := range wordobj.Runs(line, big) {
				if from != len(whole) || to <= from || to > len(line) {
					t.Fatalf("%q, %t: a run from %d to %d behind %q", line, big, from, to, whole)
				}
				part := classes(line[from:to])
				if big {
					part = strings.ReplaceAll(part, "o", "w")
				}
				if strings.Trim(part, part[:1]) != "" || part[:1] == before {
					t.Errorf("%q, %t: the run from %d to %d is %q, the one before is of %q", line, big, from, to, part, before)
				}
				whole, before = whole+line[from:to], part[:1]
			}
			if whole != line {
				t.Errorf("%q, %t: the runs are %q", line, big, whole)
			}
		}
	}
}
