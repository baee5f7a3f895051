package vec_test

import (
	"fmt"
	"iter"
	"math"
	"slices"
	"testing"

	"foolscap/vec"
)

type pair[T any] struct {
	i int
	x T
}

func pairs[T any](s iter.Seq2[int, T]) []pair[T] {
	var out []pair[T]
	for i, x := range s {
		out = append(out, pair[T]{i, x})
	}
	return out
}

// same checks by every way of reading that v holds exactly want.
func same[T comparable](t *testing.T, v *vec.Vec[T], want ...T) {
	t.Helper()
	if v.Len() != len(want) {
		t.Fatalf("Len: %d, want %d", v.Len(), len(want))
	}
	var there []pair[T]
	for i, w := range want {
		if x, ok := v.At(i); x != w || !ok {
			t.Fatalf("At(%d): %v, %t, want %v", i, x, ok, w)
		}
		there = append(there, pair[T]{i, w})
	}
	if got := pairs(v.All()); !slices.Equal(got, there) {
		t.Fatalf("All: %v, want %v", got, there)
	}
	slices.Reverse(there)
	if got := pairs(v.Back()); !slices.Equal(got, there) {
		t.Fatalf("Back: %v, want %v", got, there)
	}
}

// around gives the indexes that the chapter names, beside every valid one.
func around(length int) []int {
	out := []int{math.MinInt, -2, -1}
	for i := range length + 3 {
		out = append(out, i)
	}
	return append(out, 1<<62, math.MaxInt)
}

// P1.1: New.

func TestNewHoldsTheElementsInOrder(t *testing.T) {
	same(t, vec.New(1, 2, 3), 1, 2, 3)
	same(t, vec.New("b", "", "a", "b"), "b", "", "a", "b")
	same(t, vec.New[int]())
	same(t, vec.New([]int(nil)...))
	same(t, vec.New([]int{}...))
}

func TestNewCopiesItsArguments(t *testing.T) {
	l := []int{1, 2, 3}
	v := vec.New(l...)
	l[0] = 9
	same(t, v, 1, 2, 3)
	v.Set(1, 8)
	v.Delete(0, 1)
	if !slices.Equal(l, []int{9, 2, 3}) {
		t.Errorf("the list has changed its argument: %v", l)
	}
}

func TestNewLeavesTheSpareCapacityAlone(t *testing.T) {
	whole := []int{1, 2, 3, 4, 5}
	for n := range whole {
		v := vec.New(whole[:n]...)
		v.Insert(n, 7, 8)
		v.Insert(0, 6)
		if !slices.Equal(whole, []int{1, 2, 3, 4, 5}) {
			t.Fatalf("New of %d: the argument's memory is now %v", n, whole)
		}
	}
}

func TestListsAreApart(t *testing.T) {
	l := []int{1, 2}
	a, b := vec.New(l...), vec.New(l...)
	a.Set(0, 5)
	a.Insert(2, 6)
	b.Delete(1, 1)
	same(t, a, 5, 2, 6)
	same(t, b, 1)
}

func TestElementsAreKeptAsTheyAre(t *testing.T) {
	inner := []int{1}
	v := vec.New(inner)
	v.Insert(0, nil)
	x, _ := v.At(1)
	if y, ok := v.At(0); y != nil || !ok {
		t.Errorf("At(0): %v, %t", y, ok)
	}
	inner[0] = 2
	if x[0] != 2 {
		t.Errorf("the element was copied: %v", x)
	}
	if out := v.Delete(1, 1); len(out) != 1 || &out[0][0] != &inner[0] {
		t.Errorf("the element was copied: %v", out)
	}
}

func TestElementsOfNoSize(t *testing.T) {
	v := vec.New(struct{}{}, struct{}{})
	v.Insert(1, struct{}{})
	same(t, v, struct{}{}, struct{}{}, struct{}{})
	if out := v.Delete(2, 5); len(out) != 1 || v.Len() != 2 {
		t.Errorf("Delete: %v, then %d", out, v.Len())
	}
}

// P1.1: At, Set.

func TestAt(t *testing.T) {
	l := []string{"a", "b", "c", "d"}
	v := vec.New(l...)
	for _, i := range around(len(l)) {
		want, ok := "", i >= 0 && i < len(l)
		if ok {
			want = l[i]
		}
		if x, there := v.At(i); x != want || there != ok {
			t.Errorf("At(%d): %q, %t", i, x, there)
		}
	}
	if x, ok := vec.New[*int]().At(0); x != nil || ok {
		t.Errorf("At of none: %v, %t", x, ok)
	}
	same(t, v, l...)
}

func TestSet(t *testing.T) {
	for _, i := range around(3) {
		v := vec.New(1, 2, 3)
		want, ok := []int{1, 2, 3}, i >= 0 && i < 3
		if ok {
			want[i] = 9
		}
		if v.Set(i, 9) != ok {
			t.Errorf("Set(%d): %t", i, !ok)
		}
		same(t, v, want...)
	}
	v := vec.New[int]()
	if v.Set(0, 1) {
		t.Error("Set in a list of none")
	}
	same(t, v)
}

// P1.1: Insert.

func TestInsert(t *testing.T) {
	for length := range 5 {
		l := []int{1, 2, 3, 4}[:length]
		for n := range 4 {
			add := []int{7, 8, 9}[:n]
			for _, i := range around(length) {
				v := vec.New(l...)
				want, ok := slices.Clone(l), i >= 0 && i <= length
				if ok {
					want = slices.Concat(l[:i], add, l[i:])
				}
				if v.Insert(i, add...) != ok {
					t.Errorf("Insert(%d) of %d in %v: %t", i, n, l, !ok)
				}
				same(t, v, want...)
			}
		}
	}
}

func TestInsertExamples(t *testing.T) {
	v := vec.New(1, 2)
	v.Insert(2, 7, 8)
	same(t, v, 1, 2, 7, 8)
	v = vec.New(1, 2)
	v.Insert(1, 9)
	same(t, v, 1, 9, 2)
}

func TestInsertCopiesItsArguments(t *testing.T) {
	whole := []int{7, 8, 9}
	v := vec.New[int]()
	v.Insert(0, whole[:2]...)
	whole[0] = 1
	same(t, v, 7, 8)
	v.Insert(2, 5)
	v.Set(1, 6)
	if !slices.Equal(whole, []int{1, 8, 9}) {
		t.Errorf("the argument's memory is now %v", whole)
	}
}

// P1.1: Delete.

func TestDelete(t *testing.T) {
	for length := range 5 {
		l := []int{1, 2, 3, 4}[:length]
		for _, i := range around(length) {
			for _, n := range around(length) {
				v := vec.New(l...)
				var gone []int
				want := slices.Clone(l)
				if i >= 0 && i < length && n > 0 {
					end := i + min(n, length-i)
					gone, want = l[i:end], slices.Concat(l[:i], l[end:])
				}
				if out := v.Delete(i, n); !slices.Equal(out, gone) {
					t.Errorf("Delete(%d, %d) of %v: %v", i, n, l, out)
				}
				same(t, v, want...)
			}
		}
	}
}

func TestDeleteExample(t *testing.T) {
	v := vec.New(7, 8, 1, 2, 7, 8)
	if out := v.Delete(4, 1<<62); !slices.Equal(out, []int{7, 8}) {
		t.Errorf("Delete: %v", out)
	}
	same(t, v, 7, 8, 1, 2)
}

func TestDeletedElementsAreApart(t *testing.T) {
	v := vec.New(1, 2, 3, 4)
	out := v.Delete(1, 2)
	v.Insert(1, 8, 9)
	if !slices.Equal(out, []int{2, 3}) {
		t.Errorf("the list has changed what Delete answered: %v", out)
	}
	out[0] = 5
	_ = append(out, 6, 7)
	same(t, v, 1, 8, 9, 4)

	out = v.Delete(2, 2)
	_ = append(out[:1], 0)
	v.Insert(2, 3)
	if !slices.Equal(out, []int{9, 0}) {
		t.Errorf("the list has changed what Delete answered: %v", out)
	}
	same(t, v, 1, 8, 3)
}

// P1.2: All, Back.

func TestOrders(t *testing.T) {
	v := vec.New("a", "b", "c")
	if got := fmt.Sprint(pairs(v.All())); got != "[{0 a} {1 b} {2 c}]" {
		t.Errorf("All: %s", got)
	}
	if got := fmt.Sprint(pairs(v.Back())); got != "[{2 c} {1 b} {0 a}]" {
		t.Errorf("Back: %s", got)
	}
	for _, v := range []*vec.Vec[int]{vec.New[int](), emptied()} {
		if a, b := pairs(v.All()), pairs(v.Back()); a != nil || b != nil {
			t.Errorf("a list of none yields %v, %v", a, b)
		}
	}
}

func emptied() *vec.Vec[int] {
	v := vec.New(1, 2)
	v.Delete(0, 2)
	return v
}

// ways gives the two iterators of a list.
func ways[T any](v *vec.Vec[T]) map[string]iter.Seq2[int, T] {
	return map[string]iter.Seq2[int, T]{"All": v.All(), "Back": v.Back()}
}

func TestConsumersStopAndBeginAgain(t *testing.T) {
	v := vec.New(1, 2, 3)
	for name, s := range ways(v) {
		full := pairs(s)
		for n := range 3 {
			var got []pair[int]
			// Called by hand, so that a yield behind the last one is seen as well.
			s(func(i, x int) bool {
				got = append(got, pair[int]{i, x})
				return len(got) <= n
			})
			if !slices.Equal(got, full[:n+1]) {
				t.Errorf("%s, stopped at %d: %v", name, n, got)
			}
			if again := pairs(s); !slices.Equal(again, full) {
				t.Errorf("%s, begun again: %v", name, again)
			}
		}
	}
}

func TestConsumersWithinOneAnother(t *testing.T) {
	for name, s := range ways(vec.New(1, 2, 3)) {
		full := pairs(s)
		n := 0
		for range s {
			if got := pairs(s); !slices.Equal(got, full) {
				t.Errorf("%s: %v", name, got)
			}
			n++
		}
		if n != 3 {
			t.Errorf("%s: %d times", name, n)
		}
	}
}

func TestIteratorsShowTheListAsItIsWhenTheyBegin(t *testing.T) {
	v := vec.New(1, 2)
	all, back := v.All(), v.Back()
	v.Insert(1, 9)
	v.Set(0, 8)
	if got := fmt.Sprint(pairs(all), pairs(back)); got != "[{0 8} {1 9} {2 2}] [{2 2} {1 9} {0 8}]" {
		t.Error(got)
	}
	v.Delete(0, 2)
	if got := fmt.Sprint(pairs(all), pairs(back)); got != "[{0 2}] [{0 2}]" {
		t.Error(got)
	}
}

func TestIterationOfAChangingListEnds(t *testing.T) {
	changes := map[string]func(v *vec.Vec[int]){
		"insert at the front": func(v *vec.Vec[int]) { v.Insert(0, 7) },
		"insert at the end":   func(v *vec.Vec[int]) { v.Insert(v.Len(), 7) },
		"insert many":         func(v *vec.Vec[int]) { v.Insert(v.Len()/2, 7, 8, 9) },
		"delete the first":    func(v *vec.Vec[int]) { v.Delete(0, 1) },
		"delete the last":     func(v *vec.Vec[int]) { v.Delete(v.Len()-1, 1) },
		"delete all":          func(v *vec.Vec[int]) { v.Delete(0, v.Len()) },
		"replace all":         func(v *vec.Vec[int]) { v.Delete(0, v.Len()); v.Insert(0, 7, 7) },
		"set":                 func(v *vec.Vec[int]) { v.Set(0, 7) },
	}
	for what, change := range changes {
		for _, way := range []string{"All", "Back"} {
			v := vec.New(1, 2, 3, 4, 5, 6)
			n := 0
			for range ways(v)[way] {
				change(v)
				if n++; n > 1000 {
					t.Fatalf("%s, %s: no end", way, what)
				}
			}
			if n == 0 {
				t.Errorf("%s, %s: nothing was yielded", way, what)
			}
		}
	}
}

// P1.3.

// step takes numbers from a fixed row, so that every run does the same.
type step uint32

func (s *step) next(n int) int {
	*s = *s*1664525 + 1013904223
	return int(*s>>8) % n
}

func TestManyChangesAgainstASlice(t *testing.T) {
	var s step = 1
	v, model, fresh := vec.New[int](), []int(nil), 0
	for range 3000 {
		i, n := s.next(len(model)+3)-1, s.next(7)-1
		switch s.next(5) {
		case 0, 1:
			var add []int
			for range n {
				fresh++
				add = append(add, fresh)
			}
			if ok := i >= 0 && i <= len(model); v.Insert(i, add...) != ok {
				t.Fatalf("Insert(%d) in a list of %d: %t", i, len(model), !ok)
			} else if ok {
				model = slices.Concat(model[:i], add, model[i:])
			}
		case 2, 3:
			var gone []int
			if i >= 0 && i < len(model) && n > 0 {
				end := min(i+n, len(model))
				gone, model = slices.Clone(model[i:end]), slices.Concat(model[:i], model[end:])
			}
			if out := v.Delete(i, n); !slices.Equal(out, gone) {
				t.Fatalf("Delete(%d, %d): %v, want %v", i, n, out, gone)
			}
		case 4:
			fresh++
			if ok := i >= 0 && i < len(model); v.Set(i, fresh) != ok {
				t.Fatalf("Set(%d) in a list of %d: %t", i, len(model), !ok)
			} else if ok {
				model[i] = fresh
			}
		}
		same(t, v, model...)
	}
	if fresh < 1000 {
		t.Errorf("only %d elements were ever there", fresh)
	}
}

func TestAHugeList(t *testing.T) {
	const size = 100000
	v := vec.New[int]()
	for i := range size {
		v.Insert(v.Len(), i)
	}
	v.Insert(size/2, -1)
	if out := v.Delete(size/2, 1); !slices.Equal(out, []int{-1}) || v.Len() != size {
		t.Fatalf("Delete: %v, then %d", out, v.Len())
	}
	for i, x := range v.All() {
		if i != x {
			t.Fatalf("element %d is %d", i, x)
		}
	}
}
