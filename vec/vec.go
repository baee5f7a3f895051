// Package vec implements lists in which elements can be inserted and deleted at any index: see doc/01-vec.md.
package vec

import (
	"iter"
	"slices"
)

// Vec is a list of elements of any type.
type Vec[T any] struct {
	items []T
}

// New returns a list with the elements of l.
func New[T any](l ...T) *Vec[T] {
	// The caller may change l afterwards, so the list has memory of its own.
	return &Vec[T]{items: append([]T(nil), l...)}
}

// Len returns the number of elements.
func (v *Vec[T]) Len() int { return len(v.items) }

// At returns the element with index i, and whether there is one.
func (v *Vec[T]) At(i int) (T, bool) {
	if !v.has(i) {
		var none T
		return none, false
	}
	return v.items[i], true
}

// Set replaces the element with index i by x, and returns whether there is one.
func (v *Vec[T]) Set(i int, x T) bool {
	if !v.has(i) {
		return false
	}
	v.items[i] = x
	return true
}

// Insert inserts the elements of l before the element with index i, or at the end, and returns whether i is such an index.
func (v *Vec[T]) Insert(i int, l ...T) bool {
	if i < 0 || i > len(v.items) {
		return false
	}
	v.items = slices.Insert(v.items, i, l...)
	return true
}

// Delete removes the n elements from index i on, or as many of them as there are, and returns them.
func (v *Vec[T]) Delete(i, n int) []T {
	if !v.has(i) || n < 1 {
		return nil
	}
	// i+n might wrap around, the number of elements behind i can't.
	n = min(n, len(v.items)-i)
	// The list moves its elements within its memory, so what is handed out is a copy.
	removed := append([]T(nil), v.items[i:i+n]...)
	v.items = slices.Delete(v.items, i, i+n)
	return removed
}

// All yields each index with its element, in ascending order.
func (v *Vec[T]) All() iter.Seq2[int, T] { return v.walk(ascending) }

// Back yields each index with its element, in descending order.
func (v *Vec[T]) Back() iter.Seq2[int, T] { return v.walk(descending) }

func (v *Vec[T]) has(i int) bool { return i >= 0 && i < len(v.items) }

// walk yields the elements in the order in which order yields the indexes below a length.
func (v *Vec[T]) walk(order func(length int) iter.Seq[int]) iter.Seq2[int, T] {
	return func(yield func(int, T) bool) {
		// The length is asked once: a consumer that inserts must not prolong the walk.
		for i := range order(len(v.items)) {
			x, ok := v.At(i)
			if !ok { // the consumer has deleted
				continue
			}
			if !yield(i, x) {
				return
			}
		}
	}
}

func ascending(length int) iter.Seq[int] {
	return func(yield func(int) bool) {
		for i := range length {
			if !yield(i) {
				return
			}
		}
	}
}

func descending(length int) iter.Seq[int] {
	return func(yield func(int) bool) {
		for i := range length {
			if !yield(length - 1 - i) {
				return
			}
		}
	}
}
