package heap_test

import (
	"math"
	"slices"
	"strconv"
	"testing"

	"hibernacle/heap"
)

// P8.1

func TestNewIsEmpty(t *testing.T) {
	h := heap.New()
	isHeap(t, "New", h, model{})
	for _, key := range append([]int{0, 1, -1}, far...) {
		isNotAt(t, "New", h, key)
		isBool(t, "Cancel", h.Cancel(key), false)
		isList(t, "Due", h.Due(key), nil)
	}
	isHeap(t, "New, once it was asked", h, model{})
	if h.Steps() != 0 {
		t.Errorf("Steps of none: %d", h.Steps())
	}
}

// The example of the chapter.
func TestTheExample(t *testing.T) {
	h := heap.New()
	isBool(t, "Set", h.Set(7, 10), false)
	isBool(t, "Set", h.Set(3, 10), false)
	isHeap(t, "set", h, model{7: 10, 3: 10})
	isList(t, "Due, too early", h.Due(9), nil)
	isList(t, "Due", h.Due(10), []int{3, 7})
	isHeap(t, "due", h, model{})
	isList(t, "Due of none", h.Due(10), nil)
}

func TestSetOfOneMore(t *testing.T) {
	for _, r := range rows() {
		h, m := heap.New(), model{}
		for _, w := range r.timers(130) {
			isNotAt(t, r.name, h, w.key)
			isBool(t, r.name+": Set", h.Set(w.key, w.at), m.set(w.key, w.at))
			isHeap(t, r.name, h, m)
		}
		empties(t, r.name, h, m)
	}
}

// Each key of heaps of all small sizes is set anew: to each tick that is there, and to those between and beyond.
func TestSetInPlace(t *testing.T) {
	for n := 1; n <= 12; n++ {
		for i := range n {
			for at := -1; at <= 2*n; at++ {
				var l []timer
				for k := range n {
					l = append(l, timer{k * 5 % 13, 2*(k*7%n) + 1})
				}
				h, m := of(l...)
				isBool(t, "Set in place", h.Set(l[i].key, at), true)
				m.set(l[i].key, at)
				isHeap(t, "Set in place", h, m)
				isBool(t, "Set of the same", h.Set(l[i].key, at), true)
				isHeap(t, "Set of the same", h, m)
				empties(t, "Set in place", h, m)
				if t.Failed() {
					t.Fatalf("of %v the key %d is set to %d", l, l[i].key, at)
				}
			}
		}
	}
}

// Keys and ticks may be any numbers, which stand no nearer to one another than they are.
func TestSetOfAnyNumbers(t *testing.T) {
	numbers := append([]int{0, 1, -1}, far...)
	for i := range numbers {
		var l []timer
		for j, key := range numbers {
			l = append(l, timer{key, numbers[(i+j*2)%len(numbers)]})
		}
		h, m := of(l...)
		isHeap(t, "any numbers", h, m)
		for _, key := range numbers {
			isBool(t, "Set in place", h.Set(key, 5), true)
			m.set(key, 5)
			isHeap(t, "any numbers", h, m)
		}
		slices.Sort(numbers)
		isList(t, "of one tick", h.Due(5), numbers)
	}
}

// At each place of heaps of all small sizes, of each kind.
func TestCancel(t *testing.T) {
	for _, r := range rows() {
		for n := 1; n <= 40; n++ {
			l := r.timers(n)
			for i := range n {
				h, m := of(l...)
				isBool(t, r.name+": Cancel of none", h.Cancel(1000), false)
				isHeap(t, r.name+": Cancel of none", h, m)
				isBool(t, r.name+": Cancel", h.Cancel(l[i].key), m.cancel(l[i].key))
				isHeap(t, r.name+": Cancel", h, m)
				isNotAt(t, r.name+": Cancel", h, l[i].key)
				isBool(t, r.name+": Cancel once more", h.Cancel(l[i].key), false)
				isHeap(t, r.name+": Cancel once more", h, m)
				isList(t, r.name+": Due", h.Due(math.MaxInt), m.due(math.MaxInt))
				if t.Failed() {
					t.Fatalf("%d timers, the place %d", n, i)
				}
			}
		}
	}
}

// All are cancelled one by one, in the row in which they were set, in the other one, in that of timers, and from the middle on.
func TestCancelOfAll(t *testing.T) {
	for _, r := range rows() {
		l := r.timers(77)
		_, m := of(l...)
		back := slices.Clone(l)
		slices.Reverse(back)
		for _, row := range [][]timer{l, back, m.row(), append(slices.Clone(l[40:]), l[:40]...)} {
			h, m := of(l...)
			for _, w := range row {
				isBool(t, r.name, h.Cancel(w.key), true)
				m.cancel(w.key)
				isHeap(t, r.name, h, m)
			}
			isBool(t, r.name+": Set behind all", h.Set(5, 6), false)
			isHeap(t, r.name+": Set behind all", h, model{5: 6})
		}
	}
}

func TestAt(t *testing.T) {
	h, _ := of(timer{5, 0}, timer{0, 9}, timer{-5, -9})
	isAt(t, "a tick that is 0", h, 5, 0)
	isAt(t, "a key that is 0", h, 0, 9)
	isAt(t, "below 0", h, -5, -9)
	for _, key := range []int{9, -9, 1, -1, 6, 4} {
		isNotAt(t, "no such key", h, key)
	}
	h.Set(5, 3)
	isAt(t, "set anew", h, 5, 3)
	h.Cancel(5)
	isNotAt(t, "cancelled", h, 5)
	h.Due(-9)
	isNotAt(t, "told", h, -5)
	isAt(t, "neither", h, 0, 9)
	h.Set(5, 4)
	isAt(t, "set again", h, 5, 4)
}

// Of one tick the least key is the first one, however they came.
func TestTheRow(t *testing.T) {
	h, m := of(timer{3, 10}, timer{-3, 10}, timer{0, 10}, timer{9, -10}, timer{2, 11}, timer{1, 9})
	isHeap(t, "the row", h, m)
	isList(t, "List", h.List(), []int{9, 1, -3, 0, 3, 2})
	h.Cancel(9)
	h.Set(1, 10)
	isList(t, "List", h.List(), []int{-3, 0, 1, 3, 2})
	isList(t, "Due", h.Due(10), []int{-3, 0, 1, 3})
	isHeap(t, "Due", h, model{2: 11})
}

// Six timers, of which some have one tick, in each row in which they may be set.
func TestEachRow(t *testing.T) {
	eachRow([]timer{{1, 4}, {2, 3}, {3, 3}, {4, 3}, {5, 1}, {6, 9}}, func(l []timer) {
		h, m := of(l...)
		isHeap(t, "each row", h, m)
		empties(t, "each row", h, m)
		if t.Failed() {
			t.Fatalf("set as %v", l)
		}
	})
}

// eachRow calls do with timers in each row; do keeps none of them.
func eachRow(l []timer, do func(l []timer)) {
	var from func(i int)
	from = func(i int) {
		if i == len(l) {
			do(l)
		}
		for j := i; j < len(l); j++ {
			l[i], l[j] = l[j], l[i]
			from(i + 1)
			l[i], l[j] = l[j], l[i]
		}
	}
	from(0)
}

// Due of each tick from ahead of all to behind all: those that are not told stay.
func TestDue(t *testing.T) {
	for _, r := range rows()[:7] {
		for _, n := range []int{1, 2, 3, 7, 8, 20, 33} {
			l := r.timers(n)
			_, m := of(l...)
			row := m.row()
			for now := row[0].at - 2; now <= row[n-1].at+2; now += max(1, (row[n-1].at-row[0].at)/50) {
				h, m := of(l...)
				name := r.name + ": Due of " + strconv.Itoa(now)
				isList(t, name, h.Due(now), m.due(now))
				isHeap(t, name, h, m)
				isList(t, name+" once more", h.Due(now), nil)
				isList(t, name+", then of one ahead", h.Due(now-1), nil)
				isHeap(t, name, h, m)
				empties(t, name, h, m)
			}
		}
	}
}

func TestDueAtTheEnds(t *testing.T) {
	h, m := of(timer{1, math.MaxInt}, timer{2, math.MinInt}, timer{3, math.MaxInt - 1}, timer{4, math.MinInt + 1}, timer{5, 0})
	for _, now := range []int{math.MinInt, math.MinInt + 1, math.MinInt + 2, -1, 0, math.MaxInt - 2, math.MaxInt - 1, math.MaxInt} {
		isList(t, "Due", h.Due(now), m.due(now))
		isHeap(t, "Due", h, m)
	}
	isHeap(t, "all are told", h, model{})
}

// What is answered is new: neither it nor the heap changes with the other.
func TestListsAreNew(t *testing.T) {
	h, m := of(timer{1, 5}, timer{2, 4}, timer{3, 3}, timer{4, 2})
	a, b := h.List(), h.List()
	clear(a)
	_ = append(a[:1], 66, 67)
	isList(t, "another list", b, []int{4, 3, 2, 1})
	isHeap(t, "once its list is another", h, m)
	told := h.Due(3)
	m.due(3)
	isList(t, "Due", told, []int{4, 3})
	h.Set(4, 1)
	h.Set(9, 9)
	m.set(4, 1)
	m.set(9, 9)
	isList(t, "a list, once the heap is another", b, []int{4, 3, 2, 1})
	isList(t, "what was told, once the heap is another", told, []int{4, 3})
	clear(told)
	_ = append(told[:0], 70, 71, 72, 73)
	isHeap(t, "once what was told is another", h, m)
}

func TestHeapsAreTheirOwn(t *testing.T) {
	a, b := heap.New(), heap.New()
	a.Set(1, 5)
	a.Set(2, 4)
	b.Set(1, 9)
	isHeap(t, "a", a, model{1: 5, 2: 4})
	isHeap(t, "b", b, model{1: 9})
	if b.Steps() != 0 {
		t.Errorf("Steps of one timer alone: %d", b.Steps())
	}
	a.Cancel(1)
	b.Due(9)
	isHeap(t, "a", a, model{2: 4})
	isHeap(t, "b", b, model{})
}
