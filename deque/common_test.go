package deque_test

import (
	"math"
	"slices"
	"testing"

	"hibernacle/api"
	"hibernacle/deque"
)

// far is numbers that lie far out of all bounds.
var far = []int{math.MinInt, math.MinInt + 1, -1 << 61, -1 << 32, -65, 1 << 20, 1 << 31, 1 << 32, 1<<32 + 1, 1 << 61, math.MaxInt - 1, math.MaxInt}

// numbers is n numbers from one on, all of which differ.
func numbers(from, n int) []int {
	l := make([]int, n)
	for i := range l {
		l[i] = from + i
	}
	return l
}

// isList asks that a list that a call answers is the one that is wanted.
func isList(t *testing.T, name string, got, want []int) {
	t.Helper()
	if !slices.Equal(got, want) {
		t.Errorf("%s: %v, not %v", name, got, want)
	}
}

// isErr asks that a call answers an error, or api.OK.
func isErr(t *testing.T, name string, got, want api.Errno) {
	t.Helper()
	if got != want {
		t.Errorf("%s: %v, not %v", name, got, want)
	}
}

// told is what a call that takes one answers.
type told struct {
	n int
	e api.Errno
}

// tell puts both answers into one, so that they are asked at once.
func tell(n int, e api.Errno) told {
	return told{n, e}
}

// isTold asks that a call that takes one answers n and e.
func isTold(t *testing.T, name string, got told, n int, e api.Errno) {
	t.Helper()
	if want := (told{n, e}); got != want {
		t.Errorf("%s: %v, not %v", name, got, want)
	}
}

// isDeque asks by each call that looks at a deque, and changes none, whether it has just these, and room for so many more.
func isDeque(t *testing.T, name string, d *deque.Deque, room int, want ...int) {
	t.Helper()
	if d.Len() != len(want) || d.Room() != room {
		t.Errorf("%s: Len %d, Room %d, not %d, %d", name, d.Len(), d.Room(), len(want), room)
	}
	isList(t, name+": List", d.List(), want)
}

// isPool asks by each call that looks at a pool, and changes none, whether its workers have just these, and the global queue those.
func isPool(t *testing.T, name string, p *deque.Pool, global []int, own ...[]int) {
	t.Helper()
	if p.Workers() != len(own) {
		t.Errorf("%s: Workers %d, not %d", name, p.Workers(), len(own))
	}
	var all []int
	for w, l := range own {
		isList(t, name+": Own", p.Own(w), l)
		all = append(all, l...)
	}
	for _, w := range outside(len(own)) {
		isList(t, name+": Own of no worker", p.Own(w), nil)
	}
	all = append(all, global...)
	isList(t, name+": Global", p.Global(), global)
	isList(t, name+": All", p.All(), all)
	if p.Len() != len(all) {
		t.Errorf("%s: Len %d, not %d", name, p.Len(), len(all))
	}
}

// outside is numbers that are no worker's of so many.
func outside(workers int) []int {
	return append([]int{-1, -2, -workers, workers, workers + 1, 2 * workers}, far...)
}

// pool is a pool of that room whose workers have these, and whose global queue has those.
func pool(room int, global []int, own ...[]int) *deque.Pool {
	p := deque.NewPool(len(own), room)
	for w, l := range own {
		for _, n := range l {
			p.Give(w, n)
		}
	}
	for _, n := range global {
		p.Put(n)
	}
	return p
}

// each calls do with each room and each number of things that there is room for.
func each(do func(room int, l []int)) {
	for room := 1; room <= api.MaxDeque; room++ {
		for n := range room + 1 {
			do(room, numbers(10, n))
		}
	}
}

// filled is a deque with these, of the room that it is made with.
func filled(room int, l ...int) *deque.Deque {
	d := deque.New(room)
	for _, n := range l {
		d.Push(n)
	}
	return d
}
