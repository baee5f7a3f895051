package jumps_test

import (
	"math"
	"math/big"
	"slices"
	"testing"

	"foolscap/api"
	"foolscap/jumps"
	"foolscap/marks"
)

const most = 1 << 30

// numbers are below, in, and above those that a call can go by.
var numbers = []int{math.MinInt, math.MinInt + 1, -most, -2, -1, 0, 1, 2, 3, 4, 5, 15, 16, 17, most, most + 1, 1 << 62, math.MaxInt - 1, math.MaxInt}

func at(line, col int) api.Pos { return api.Pos{Line: line, Col: col} }

// model is a list by the words of the chapter.
type model struct {
	places []api.Pos
	index  int
}

func (m *model) push(p api.Pos) {
	var rest []api.Pos
	for _, q := range m.places {
		if q.Line != p.Line {
			rest = append(rest, q)
		}
	}
	m.places = append(rest, p)
	if len(m.places) > api.MaxJumps {
		m.places = m.places[1:]
	}
	m.index = len(m.places)
}

func (m *model) older(p api.Pos, n int) (api.Pos, bool) {
	if n < 1 || n > m.index {
		return api.Pos{}, false
	}
	if m.index == len(m.places) {
		m.push(p)
		m.index--
	}
	for range n {
		if m.index > 0 {
			m.index--
		}
	}
	return m.places[m.index], true
}

func (m *model) newer(n int) (api.Pos, bool) {
	to := new(big.Int).Add(big.NewInt(int64(m.index)), big.NewInt(int64(n)))
	if n < 1 || to.Cmp(big.NewInt(int64(len(m.places)))) >= 0 {
		return api.Pos{}, false
	}
	m.index = int(to.Int64())
	return m.places[m.index], true
}

func (m *model) adjust(at, old, now int) {
	var left []api.Pos
	before := 0
	for i, p := range m.places {
		line, ok := marks.Shift(p.Line, at, old, now)
		if ok {
			left = append(left, api.Pos{Line: line, Col: p.Col})
		} else if i < m.index {
			before++
		}
	}
	m.places, m.index = left, m.index-before
}

// same checks that the list has exactly these positions, and this index.
func same(t *testing.T, l *jumps.List, index int, places ...api.Pos) {
	t.Helper()
	got, i := l.All()
	if !slices.Equal(got, places) || i != index {
		t.Fatalf("All: %v, %d, want %v, %d", got, i, places, index)
	}
}

// led checks what Older or Newer has answered.
func led(t *testing.T, p api.Pos, ok bool, want api.Pos, there bool) {
	t.Helper()
	if p != want || ok != there {
		t.Fatalf("led to %v, %t, want %v, %t", p, ok, want, there)
	}
}

// made returns a list of n positions, in the lines 10, 20 and so on, with the index at their end.
func made(n int) (*jumps.List, *model) {
	l, m := jumps.New(), &model{}
	for i := range n {
		p := at(10*i+10, i*i)
		l.Push(p)
		m.push(p)
	}
	return l, m
}

// gone returns such a list whose index is lower than the number of positions.
func gone(n, index int) (*jumps.List, *model) {
	l, m := made(n - 1)
	here := at(10*n, -1)
	l.Older(here, n-1-index)
	m.older(here, n-1-index)
	return l, m
}

// P14.1: New, Push, Older.

func TestNew(t *testing.T) {
	l := jumps.New()
	same(t, l, 0)
	for _, n := range numbers {
		p, ok := l.Older(at(1, 1), n)
		led(t, p, ok, at(0, 0), false)
		p, ok = l.Newer(n)
		led(t, p, ok, at(0, 0), false)
		l.Adjust(n, 1, 2)
		same(t, l, 0)
	}
}

func TestEachNewIsApart(t *testing.T) {
	l, m := jumps.New(), jumps.New()
	l.Push(at(1, 2))
	m.Push(at(3, 4))
	m.Push(at(5, 6))
	same(t, l, 1, at(1, 2))
	same(t, m, 2, at(3, 4), at(5, 6))
}

func TestPush(t *testing.T) {
	l := jumps.New()
	l.Push(at(1, 1))
	same(t, l, 1, at(1, 1))
	l.Push(at(2, 2))
	same(t, l, 2, at(1, 1), at(2, 2))
	l.Push(at(1, 5))
	same(t, l, 2, at(2, 2), at(1, 5))
	l.Push(at(1, 5))
	same(t, l, 2, at(2, 2), at(1, 5))
	l.Push(at(5, 1))
	same(t, l, 3, at(2, 2), at(1, 5), at(5, 1))
}

func TestPushOfEveryPosition(t *testing.T) {
	for _, line := range numbers {
		for _, col := range numbers {
			l := jumps.New()
			l.Push(at(line, 7))
			l.Push(at(77, 7))
			l.Push(at(line, col))
			same(t, l, 2, at(77, 7), at(line, col))
		}
	}
}

func TestPushOfMoreThanThereMayBe(t *testing.T) {
	l := jumps.New()
	var all []api.Pos
	for i := range 5 * api.MaxJumps {
		all = append(all, at(i, 2*i))
		l.Push(at(i, 2*i))
		left := all[max(0, len(all)-api.MaxJumps):]
		same(t, l, len(left), left...)
	}
}

func TestPushOfALineThatIsThereToAFullList(t *testing.T) {
	for i := range api.MaxJumps {
		l, m := made(api.MaxJumps)
		p := at(10*i+10, 99)
		l.Push(p)
		want := append(slices.Delete(slices.Clone(m.places), i, i+1), p)
		same(t, l, api.MaxJumps, want...)
	}
}

func TestPushSetsTheIndexToTheEnd(t *testing.T) {
	for index := range 4 {
		l, m := gone(5, index)
		l.Push(at(7, 7))
		same(t, l, 6, append(m.places, at(7, 7))...)
		l, m = gone(5, index)
		l.Push(at(10, 7))
		same(t, l, 5, append(m.places[1:], at(10, 7))...)
	}
}

// Shift holds lines at the greatest number, so that two positions may come to be in one line.
func TestPushRemovesAllOfALine(t *testing.T) {
	l := jumps.New()
	l.Push(at(math.MaxInt-2, 1))
	l.Push(at(3, 2))
	l.Push(at(math.MaxInt-1, 3))
	l.Push(at(math.MaxInt, 4))
	l.Adjust(5, 0, 9)
	same(t, l, 4, at(math.MaxInt, 1), at(3, 2), at(math.MaxInt, 3), at(math.MaxInt, 4))
	l.Push(at(math.MaxInt, 5))
	same(t, l, 2, at(3, 2), at(math.MaxInt, 5))
}

func TestOlder(t *testing.T) {
	l := jumps.New()
	l.Push(at(1, 1))
	l.Push(at(2, 2))
	l.Push(at(1, 5))
	p, ok := l.Older(at(7, 7), 1)
	led(t, p, ok, at(1, 5), true)
	same(t, l, 1, at(2, 2), at(1, 5), at(7, 7))
	p, ok = l.Older(at(9, 9), 2)
	led(t, p, ok, at(0, 0), false)
	same(t, l, 1, at(2, 2), at(1, 5), at(7, 7))
	p, ok = l.Older(at(9, 9), 1)
	led(t, p, ok, at(2, 2), true)
	same(t, l, 0, at(2, 2), at(1, 5), at(7, 7))
	p, ok = l.Older(at(9, 9), 1)
	led(t, p, ok, at(0, 0), false)
	same(t, l, 0, at(2, 2), at(1, 5), at(7, 7))
}

func TestOlderOfOnePosition(t *testing.T) {
	l := jumps.New()
	l.Push(at(1, 0))
	p, ok := l.Older(at(5, 0), 1)
	led(t, p, ok, at(1, 0), true)
	same(t, l, 0, at(1, 0), at(5, 0))
}

// The place that is left takes that of the only position, so that there is nothing to go back to.
func TestOlderFromTheLineOfThePosition(t *testing.T) {
	l := jumps.New()
	l.Push(at(1, 0))
	p, ok := l.Older(at(1, 9), 1)
	led(t, p, ok, at(1, 9), true)
	same(t, l, 0, at(1, 9))
	p, ok = l.Newer(1)
	led(t, p, ok, at(0, 0), false)
}

func TestOlderFromALineThatIsThere(t *testing.T) {
	for i := range 4 {
		for n := 1; n <= 4; n++ {
			l, m := made(4)
			here := at(10*i+10, 99)
			want := append(slices.Delete(slices.Clone(m.places), i, i+1), here)
			p, ok := l.Older(here, n)
			index := max(0, 3-n)
			led(t, p, ok, want[index], true)
			same(t, l, index, want...)
		}
	}
}

func TestOlderOfAFullList(t *testing.T) {
	for n := 1; n <= api.MaxJumps; n++ {
		l, m := made(api.MaxJumps)
		p, ok := l.Older(at(5, 5), n)
		// The first position has gone, so that one steps back over one fewer.
		want := append(m.places[1:], at(5, 5))
		index := max(0, api.MaxJumps-1-n)
		led(t, p, ok, want[index], true)
		same(t, l, index, want...)
	}
}

func TestOlderByNumbersThatLeadNowhere(t *testing.T) {
	for size := range api.MaxJumps + 1 {
		for _, n := range numbers {
			if n >= 1 && n <= size {
				continue
			}
			l, m := made(size)
			p, ok := l.Older(at(5, 5), n)
			led(t, p, ok, at(0, 0), false)
			same(t, l, size, m.places...)
		}
	}
}

func TestOlderPushesAtTheEndAlone(t *testing.T) {
	for size := 2; size <= api.MaxJumps; size++ {
		for index := range size - 1 {
			for n := 1; n <= index; n++ {
				l, m := gone(size, index)
				same(t, l, index, m.places...)
				p, ok := l.Older(at(5, 5), n)
				led(t, p, ok, m.places[index-n], true)
				same(t, l, index-n, m.places...)
			}
		}
	}
}

// P14.2: Newer, Adjust, All.

func TestNewer(t *testing.T) {
	l, m := gone(3, 0)
	p, ok := l.Newer(3)
	led(t, p, ok, at(0, 0), false)
	same(t, l, 0, m.places...)
	p, ok = l.Newer(2)
	led(t, p, ok, m.places[2], true)
	same(t, l, 2, m.places...)
	p, ok = l.Newer(1)
	led(t, p, ok, at(0, 0), false)
	same(t, l, 2, m.places...)
}

func TestNewerByEveryNumber(t *testing.T) {
	for size := 2; size <= api.MaxJumps; size++ {
		for index := range size - 1 {
			for _, n := range numbers {
				l, m := gone(size, index)
				want, there := m.newer(n)
				p, ok := l.Newer(n)
				led(t, p, ok, want, there)
				same(t, l, m.index, m.places...)
			}
		}
	}
}

func TestNewerAtTheEnd(t *testing.T) {
	for size := range api.MaxJumps + 1 {
		for _, n := range numbers {
			l, m := made(size)
			p, ok := l.Newer(n)
			led(t, p, ok, at(0, 0), false)
			same(t, l, size, m.places...)
		}
	}
}

func TestAdjust(t *testing.T) {
	l, m := gone(5, 2)
	l.Adjust(15, 0, 3)
	same(t, l, 2, at(10, 0), at(23, 1), at(33, 4), at(43, 9), at(53, -1))
	l.Adjust(10, 1, 0)
	same(t, l, 1, at(22, 1), at(32, 4), at(42, 9), at(52, -1))
	l.Adjust(32, 1, 0)
	same(t, l, 1, at(22, 1), at(41, 9), at(51, -1))
	l.Adjust(41, 99, 1)
	same(t, l, 1, at(22, 1), at(41, 9))
	l.Adjust(0, 99, 0)
	same(t, l, 0)
	l, m = gone(5, 2)
	l.Adjust(0, 99, 0)
	same(t, l, 0)
	l.Push(m.places[0])
	same(t, l, 1, m.places[0])
}

// What Adjust removes from the index on leaves the index alone, even where it becomes the number of positions.
func TestAdjustMayLeaveTheIndexAtTheEnd(t *testing.T) {
	l, m := gone(4, 2)
	l.Adjust(30, 11, 0)
	same(t, l, 2, m.places[:2]...)
	p, ok := l.Newer(1)
	led(t, p, ok, at(0, 0), false)
	p, ok = l.Older(at(5, 5), 1)
	led(t, p, ok, m.places[1], true)
	same(t, l, 1, m.places[0], m.places[1], at(5, 5))
}

func TestAdjustOfAllNumbers(t *testing.T) {
	from := append([]int{9, 10, 11, 20, 29, 30, 31}, numbers...)
	for index := range 4 {
		for _, first := range from {
			for _, old := range from {
				for _, now := range from {
					l, m := gone(5, index)
					l.Adjust(first, old, now)
					m.adjust(first, old, now)
					same(t, l, m.index, m.places...)
				}
			}
		}
	}
}

func TestAdjustOfEveryPosition(t *testing.T) {
	for _, line := range numbers {
		for _, col := range numbers {
			for _, x := range [][3]int{{0, 0, 5}, {2, 2, 1}, {1, 1, 0}, {0, most, 0}, {-1, 1, 2}} {
				l, m := jumps.New(), &model{}
				l.Push(at(line, col))
				m.push(at(line, col))
				l.Adjust(x[0], x[1], x[2])
				m.adjust(x[0], x[1], x[2])
				same(t, l, m.index, m.places...)
			}
		}
	}
}

func TestAllIsTheCallers(t *testing.T) {
	l, m := made(5)
	all, _ := l.All()
	for i := range all {
		all[i] = at(1, 1)
	}
	all = append(all[:2], at(3, 3), at(3, 3))
	same(t, l, 5, m.places...)
	all, _ = l.All()
	l.Adjust(0, 0, 5)
	l.Push(at(0, 0))
	if !slices.Equal(all, m.places) {
		t.Errorf("All was changed afterwards: %v", all)
	}
}

// step takes numbers from a fixed row, so that every run does the same.
type step uint32

func (s *step) next(n int) int {
	*s = *s*1664525 + 1013904223
	return int(*s>>8) % n
}

func TestLongRowsOfCalls(t *testing.T) {
	s := step(14)
	for range 400 {
		l, m := jumps.New(), &model{}
		lines := s.next(40) + 1
		for range 200 {
			here, n := at(s.next(lines), s.next(9)), s.next(8)-1
			switch s.next(6) {
			case 0, 1:
				l.Push(here)
				m.push(here)
			case 2, 3:
				p, ok := l.Older(here, n)
				want, there := m.older(here, n)
				led(t, p, ok, want, there)
			case 4:
				p, ok := l.Newer(n)
				want, there := m.newer(n)
				led(t, p, ok, want, there)
			case 5:
				from, old, now := s.next(lines+2)-1, s.next(4), s.next(4)
				l.Adjust(from, old, now)
				m.adjust(from, old, now)
			}
			same(t, l, m.index, m.places...)
		}
	}
}

// P14.3: Older and Newer lead back and forth.

func TestBackAndForth(t *testing.T) {
	for size := 1; size < api.MaxJumps; size++ {
		l, m := made(size)
		here := at(5, 5)
		path := append(slices.Clone(m.places), here)
		for i := size - 1; i >= 0; i-- {
			p, ok := l.Older(here, 1)
			led(t, p, ok, path[i], true)
		}
		for i := 1; i <= size; i++ {
			p, ok := l.Newer(1)
			led(t, p, ok, path[i], true)
		}
		for n := 1; n <= size; n++ {
			p, ok := l.Older(at(7, 7), n)
			// From the last position there is a way back without a push: the index is not at the end.
			led(t, p, ok, path[size-n], true)
			p, ok = l.Newer(n)
			led(t, p, ok, here, true)
		}
		same(t, l, size, path...)
	}
}

func TestForthAndBackFromAnywhere(t *testing.T) {
	for size := 2; size <= api.MaxJumps; size++ {
		for index := range size - 1 {
			l, m := gone(size, index)
			for n := 1; index+n < size; n++ {
				p, ok := l.Newer(n)
				led(t, p, ok, m.places[index+n], true)
				p, ok = l.Older(at(5, 5), n)
				led(t, p, ok, m.places[index], true)
			}
			same(t, l, index, m.places...)
		}
	}
}

func TestTheWayBackMovesAlongWithTheLines(t *testing.T) {
	l, _ := made(3)
	l.Older(at(5, 5), 2)
	l.Adjust(0, 0, 7)
	p, ok := l.Newer(2)
	led(t, p, ok, at(12, 5), true)
	p, ok = l.Older(at(1, 1), 3)
	led(t, p, ok, at(17, 0), true)
}
