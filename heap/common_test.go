package heap_test

import (
	"cmp"
	"maps"
	"math"
	"slices"
	"testing"

	"hibernacle/heap"
)

// far is numbers that lie far out.
var far = []int{math.MinInt, math.MinInt + 1, -1 << 61, -1<<32 - 1, -1 << 32, -1 << 31, 1 << 31, 1 << 32, 1<<32 + 1, 1 << 61, math.MaxInt - 1, math.MaxInt}

// timer is a key and its tick.
type timer struct {
	key, at int
}

// model is a heap as the chapter has it: a tick of each key, that are sorted whenever they are asked for.
type model map[int]int

// row is all timers, in their row.
func (m model) row() []timer {
	var l []timer
	for key, at := range m {
		l = append(l, timer{key, at})
	}
	slices.SortFunc(l, func(a, b timer) int {
		return cmp.Or(cmp.Compare(a.at, b.at), cmp.Compare(a.key, b.key))
	})
	return l
}

func (m model) set(key, at int) bool {
	had := m.cancel(key)
	m[key] = at
	return had
}

func (m model) cancel(key int) bool {
	_, had := m[key]
	delete(m, key)
	return had
}

func (m model) due(now int) []int {
	var l []int
	for _, t := range m.row() {
		if t.at <= now {
			l = append(l, t.key)
			delete(m, t.key)
		}
	}
	return l
}

// of is a heap in which these were set, in this row, and its model.
func of(l ...timer) (*heap.Heap, model) {
	h, m := heap.New(), model{}
	for _, t := range l {
		h.Set(t.key, t.at)
		m.set(t.key, t.at)
	}
	return h, m
}

// keys is the keys of timers, in their row.
func keys(l []timer) []int {
	var k []int
	for _, t := range l {
		k = append(k, t.key)
	}
	return k
}

// isList asks that a list that a call answers is the one that is wanted.
func isList(t *testing.T, name string, got, want []int) {
	t.Helper()
	if !slices.Equal(got, want) {
		t.Errorf("%s: %v, not %v", name, got, want)
	}
}

// isBool asks that a call answers that.
func isBool(t *testing.T, name string, got, want bool) {
	t.Helper()
	if got != want {
		t.Errorf("%s: %v, not %v", name, got, want)
	}
}

// isAt asks that a key has that tick.
func isAt(t *testing.T, name string, h *heap.Heap, key, at int) {
	t.Helper()
	if got, ok := h.At(key); got != at || !ok {
		t.Errorf("%s: At(%d): %d, %v, not %d, true", name, key, got, ok, at)
	}
}

// isNotAt asks that a key has no tick.
func isNotAt(t *testing.T, name string, h *heap.Heap, key int) {
	t.Helper()
	if got, ok := h.At(key); got != 0 || ok {
		t.Errorf("%s: At(%d): %d, %v, not 0, false", name, key, got, ok)
	}
}

// isHeap asks by each call that looks at a heap, and changes none, whether it has just the timers of a model; none of these calls is a step.
func isHeap(t *testing.T, name string, h *heap.Heap, m model) {
	t.Helper()
	steps := h.Steps()
	row := m.row()
	if h.Len() != len(row) {
		t.Errorf("%s: Len %d, not %d", name, h.Len(), len(row))
	}
	isList(t, name+": List", h.List(), keys(row))
	key, at, ok := h.First()
	if len(row) == 0 {
		if key != 0 || at != 0 || ok {
			t.Errorf("%s: First: %d, %d, %v, not 0, 0, false", name, key, at, ok)
		}
	} else if (timer{key, at}) != row[0] || !ok {
		t.Errorf("%s: First: %d, %d, %v, not %v, true", name, key, at, ok, row[0])
	}
	for _, w := range row {
		isAt(t, name, h, w.key, w.at)
	}
	if h.Steps() != steps {
		t.Errorf("%s: Steps: %d, not %d, though nothing was set or taken out", name, h.Steps(), steps)
	}
}

// empties asks that Due, tick by tick, tells all that are left of a heap, and what it leaves each time.
func empties(t *testing.T, name string, h *heap.Heap, m model) {
	t.Helper()
	for _, now := range slices.Compact(slices.Sorted(maps.Values(m))) {
		if now > math.MinInt {
			isList(t, name+": Due one tick ahead", h.Due(now-1), nil)
		}
		isList(t, name+": Due", h.Due(now), m.due(now))
		isHeap(t, name+": behind Due", h, m)
	}
	isList(t, name+": Due of none", h.Due(math.MaxInt), nil)
}

// ticks is a row of ticks, of any length.
type ticks struct {
	name string
	at   func(i int) int
}

// rows is rows of ticks of many kinds.
func rows() []ticks {
	return []ticks{
		{"rising", func(i int) int { return i }},
		{"falling", func(i int) int { return -i }},
		{"all one", func(int) int { return 7 }},
		{"two by two", func(i int) int { return i / 2 }},
		{"up and down", func(i int) int { return i * (1 - i%2*2) }},
		{"few", func(i int) int { return i * 7 % 5 }},
		{"mixed", func(i int) int { return i * 7919 % 1009 }},
		{"far", func(i int) int { return far[i*5%len(far)] }},
	}
}

// timers is n timers of a row of ticks. Their keys do not rise, and some are below 0.
func (r ticks) timers(n int) []timer {
	l := make([]timer, n)
	for i := range l {
		l[i] = timer{i * 37 % 101, r.at(i)}
		if i >= 101 {
			l[i].key = -i
		}
	}
	return l
}
