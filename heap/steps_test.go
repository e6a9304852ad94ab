package heap_test

import (
	"math"
	"math/bits"
	"math/rand"
	"testing"

	"hibernacle/heap"
)

// P8.2

// spends asks that what do does to a heap takes no more than so many steps.
func spends(t *testing.T, name string, h *heap.Heap, most int, do func()) {
	t.Helper()
	was, n := h.Steps(), h.Len()
	do()
	if d := h.Steps() - was; d < 0 || d > most {
		t.Errorf("%s: %d steps, of %d timers ahead; no more than %d", name, d, n, most)
	}
}

// most is how many steps there may be for each call, with n timers.
func most(n int) int {
	return 3 * bits.Len(uint(n))
}

// setsWithin is Set; one that has a tick is none more.
func setsWithin(t *testing.T, name string, h *heap.Heap, w timer) {
	t.Helper()
	n := h.Len()
	if _, had := h.At(w.key); !had {
		n++
	}
	spends(t, name+": Set", h, most(n), func() { h.Set(w.key, w.at) })
}

// cancelsWithin is Cancel; the number of timers is that behind it, of which there are fewer.
func cancelsWithin(t *testing.T, name string, h *heap.Heap, key int) {
	t.Helper()
	n := h.Len()
	if _, had := h.At(key); had {
		n--
	}
	spends(t, name+": Cancel", h, most(n), func() { h.Cancel(key) })
}

// dueWithin is Due; of each key that it tells the number of timers is that behind it.
func dueWithin(t *testing.T, name string, h *heap.Heap, now int) {
	t.Helper()
	l := h.List()
	sum := 0
	for i, key := range l {
		if at, _ := h.At(key); at <= now {
			sum += most(len(l) - i - 1)
		}
	}
	spends(t, name+": Due", h, sum, func() { h.Due(now) })
}

func TestStepsOfSet(t *testing.T) {
	for _, r := range rows() {
		h := heap.New()
		for _, w := range r.timers(1000) {
			setsWithin(t, r.name, h, w)
		}
		for i, w := range r.timers(1000) {
			at := w.at
			switch i % 4 {
			case 0:
				at = math.MinInt + i
			case 1:
				at = math.MaxInt - i
			case 2:
				at = -at
			}
			setsWithin(t, r.name+" in place", h, timer{w.key, at})
		}
	}
}

func TestStepsOfCancel(t *testing.T) {
	for _, r := range rows() {
		l := r.timers(1000)
		rand.New(rand.NewSource(82)).Shuffle(len(l), func(i, j int) { l[i], l[j] = l[j], l[i] })
		h, m := of(r.timers(1000)...)
		first, _ := of(l...)
		for _, w := range l {
			cancelsWithin(t, r.name, h, w.key)
			cancelsWithin(t, r.name+" of none", h, w.key)
		}
		for _, w := range m.row() {
			cancelsWithin(t, r.name+" of the first one", first, w.key)
		}
	}
}

func TestStepsOfDue(t *testing.T) {
	for _, r := range rows() {
		for _, n := range []int{1, 2, 3, 4, 15, 16, 17, 500} {
			all, m := of(r.timers(n)...)
			dueWithin(t, r.name+" of all", all, math.MaxInt)
			dueWithin(t, r.name+" of none", all, math.MaxInt)
			h, _ := of(r.timers(n)...)
			for _, w := range m.row() {
				if w.at > math.MinInt {
					dueWithin(t, r.name+" of one tick ahead", h, w.at-1)
				}
				dueWithin(t, r.name, h, w.at)
			}
		}
	}
}

// Whatever was done ahead.
func TestStepsOfAny(t *testing.T) {
	r := rand.New(rand.NewSource(83))
	for range 40 {
		h := heap.New()
		keys, last := 1+r.Intn(300), 1+r.Intn(1000)
		for range 1500 {
			switch key, at := r.Intn(keys), r.Intn(last); r.Intn(6) {
			case 0:
				cancelsWithin(t, "any", h, key)
			case 1:
				dueWithin(t, "any", h, at/(1+r.Intn(50)))
			default:
				setsWithin(t, "any", h, timer{key, at})
			}
		}
	}
}

// Nothing is told of the row of two timers unless they are held against one another.
func TestStepsOfTwo(t *testing.T) {
	h := heap.New()
	for i, want := range []int{0, 1} {
		h.Set(i, 5)
		if h.Steps() != want {
			t.Errorf("Steps with %d timers: %d, not %d", i+1, h.Steps(), want)
		}
	}
	was := h.Steps()
	h.Due(5)
	if h.Steps() != was {
		t.Errorf("Steps of Due of two: %d", h.Steps()-was)
	}
}

// Who brings timers into their row by holding two of them against one another must do so, over all rows in which they may come, at least as often as there are halves to choose from: on the average, of n timers, the binary logarithm of how many rows there are. So Steps counts all of it, in Set and Due, and in Set and Cancel.
func TestStepsAreCounted(t *testing.T) {
	ways := map[string]func(h *heap.Heap){
		"Due":    func(h *heap.Heap) { h.Due(math.MaxInt) },
		"Cancel": cancelFirsts,
	}
	for name, out := range ways {
		var l []timer
		for n := 1; n <= 8; n++ {
			l = append(l, timer{n, n * 3})
			count, sum := 0, 0
			eachRow(l, func(l []timer) {
				h, _ := of(l...)
				out(h)
				count++
				sum += h.Steps()
			})
			if least := float64(count) * math.Log2(float64(count)); float64(sum) < least-0.5 {
				t.Errorf("%s: all rows of %d timers: %d steps, fewer than %f", name, n, sum, least)
			}
		}
	}
}

// cancelFirsts cancels the first one till there is none.
func cancelFirsts(h *heap.Heap) {
	for h.Len() > 0 {
		key, _, _ := h.First()
		h.Cancel(key)
	}
}

// Looking at a heap is no step, nor is what changes nothing.
func TestStepsOfLookers(t *testing.T) {
	h, m := of(rows()[6].timers(200)...)
	if h.Steps() == 0 {
		t.Error("no step for 200 timers")
	}
	spends(t, "lookers", h, 0, func() {
		isHeap(t, "lookers", h, m)
		isNotAt(t, "lookers", h, 1<<40)
		isList(t, "lookers", h.Due(m.row()[0].at-1), nil)
		isBool(t, "lookers", h.Cancel(1<<40), false)
	})
}
