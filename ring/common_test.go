package ring_test

import (
	"math"
	"slices"
	"testing"

	"hibernacle/api"
	"hibernacle/ring"
)

// most is the greatest room that a ring has.
const most = 1024

// far is numbers that lie far out of all bounds.
var far = []int{math.MinInt, math.MinInt + 1, -1 << 61, -1 << 32, -1025, 1 << 20, 1 << 31, 1 << 32, 1<<32 + 1, 1 << 61, math.MaxInt - 1, math.MaxInt}

// numbers is n numbers from one on, all of which differ.
func numbers(from, n int) []int {
	l := make([]int, n)
	for i := range l {
		l[i] = from + i
	}
	return l
}

// told is all that All tells, and whether each is told with how many stand ahead.
func told[T any](r *ring.Ring[T]) ([]T, bool) {
	var l []T
	ok := true
	for i, v := range r.All() {
		ok = ok && i == len(l)
		l = append(l, v)
	}
	return l, ok
}

// isRing asks by each call that looks at a ring, and changes none, whether it has just these, and room for so many more.
func isRing[T comparable](t *testing.T, name string, r *ring.Ring[T], room int, want ...T) {
	t.Helper()
	var none T
	if r.Len() != len(want) || r.Room() != room {
		t.Errorf("%s: Len %d, Room %d, not %d, %d", name, r.Len(), r.Room(), len(want), room)
	}
	if l, ok := told(r); !ok || !slices.Equal(l, want) {
		t.Errorf("%s: All tells %v, %v, not %v", name, l, ok, want)
	}
	for i, v := range want {
		if got, ok := r.At(i); got != v || !ok {
			t.Errorf("%s: At(%d): %v, %v, not %v", name, i, got, ok, v)
		}
	}
	for _, i := range append([]int{-1, -2, len(want), len(want) + 1, most - 1, most, most + 1}, far...) {
		if got, ok := r.At(i); (i < 0 || i >= len(want)) && (got != none || ok) {
			t.Errorf("%s: At(%d): %v, %v, where there is none", name, i, got, ok)
		}
	}
	first, e := none, api.ErrEmpty
	if len(want) > 0 {
		first, e = want[0], api.OK
	}
	if got, was := r.Peek(); got != first || was != e {
		t.Errorf("%s: Peek: %v, %v, not %v, %v", name, got, was, first, e)
	}
}

// isPushed asks that Push of v answers e.
func isPushed[T any](t *testing.T, name string, r *ring.Ring[T], v T, e api.Errno) {
	t.Helper()
	if got := r.Push(v); got != e {
		t.Errorf("%s: Push(%v): %v, not %v", name, v, got, e)
	}
}

// isPopped asks that Pop answers v and e.
func isPopped[T comparable](t *testing.T, name string, r *ring.Ring[T], v T, e api.Errno) {
	t.Helper()
	if got, was := r.Pop(); got != v || was != e {
		t.Errorf("%s: Pop: %v, %v, not %v, %v", name, got, was, v, e)
	}
}

// turned is a ring with these, the first of which stands so many slots on from where a new ring has it.
func turned[T any](room, on int, l ...T) *ring.Ring[T] {
	var none T
	r := ring.New[T](room)
	for range on {
		r.Push(none)
		r.Pop()
	}
	for _, v := range l {
		r.Push(v)
	}
	return r
}

// each calls do with rings of each small room and each number of things, begun at each slot.
func each(do func(room, on int, l []int)) {
	for room := range 6 {
		for n := range room + 1 {
			for on := range room + 1 {
				do(room, on, numbers(10, n))
			}
		}
	}
}
