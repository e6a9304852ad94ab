package heap_test

import (
	"math/rand"
	"slices"
	"testing"

	"hibernacle/heap"
)

// P8.3

// A heap is told the same as its model, with few keys and ticks, so that many are alike.
func TestHeapsAreTheModel(t *testing.T) {
	r := rand.New(rand.NewSource(81))
	for range 200 {
		h, m := heap.New(), model{}
		keys, last, sets := 1+r.Intn(60), 1+r.Intn(60), 1+r.Intn(8)
		for range 300 {
			key, at := r.Intn(keys)-keys/2, r.Intn(last)-last/2
			switch k := r.Intn(sets + 3); {
			case k == 0:
				isBool(t, "Cancel", h.Cancel(key), m.cancel(key))
				isNotAt(t, "Cancel", h, key)
			case k == 1:
				isList(t, "Due", h.Due(at), m.due(at))
			default:
				isBool(t, "Set", h.Set(key, at), m.set(key, at))
			}
			isHeap(t, "any", h, m)
			if t.Failed() {
				return
			}
		}
		empties(t, "at the end", h, m)
	}
}

// Time goes by: each timer is told once, at the first Due that is not below its tick; one that was cancelled is not told; one that was set anew is told at its last tick alone.
func TestEachIsToldOnce(t *testing.T) {
	r := rand.New(rand.NewSource(84))
	for range 100 {
		h := heap.New()
		wait := map[int]int{}
		now := 0
		for now < 2000 {
			for range r.Intn(8) {
				key := r.Intn(100)
				if r.Intn(4) == 0 {
					h.Cancel(key)
					delete(wait, key)
				} else {
					wait[key] = now + 1 + r.Intn(300)
					h.Set(key, wait[key])
				}
			}
			now += 1 + r.Intn(20)
			isTold(t, h.Due(now), wait, now)
		}
		isTold(t, h.Due(now+300), wait, now+300)
		if len(wait) != 0 || h.Len() != 0 || t.Failed() {
			t.Fatalf("%d were not told, %d are left", len(wait), h.Len())
		}
	}
}

// isTold asks that just those are told whose tick has come, none twice, and lets them wait no more.
func isTold(t *testing.T, told []int, wait map[int]int, now int) {
	t.Helper()
	for _, key := range told {
		if at, ok := wait[key]; !ok || at > now {
			t.Errorf("at %d %d is told: its tick is %d, %v", now, key, at, ok)
		}
		delete(wait, key)
	}
	for key, at := range wait {
		if at <= now {
			t.Errorf("at %d %d is not told, whose tick is %d", now, key, at)
		}
	}
}

// A timer that was told or cancelled may be set again, and is told again.
func TestSetAgain(t *testing.T) {
	h := heap.New()
	for now := range 200 {
		isBool(t, "Set", h.Set(1, now), false)
		isBool(t, "Set", h.Set(2, now+1), now > 0)
		isBool(t, "Set", h.Set(3, now), false)
		isBool(t, "Cancel", h.Cancel(3), true)
		isList(t, "Due", h.Due(now), []int{1})
		isHeap(t, "again", h, model{2: now + 1})
	}
}

// Many timers come out in their row, whatever became of them.
func TestManyTimers(t *testing.T) {
	const many = 100000
	r := rand.New(rand.NewSource(85))
	h, m := heap.New(), model{}
	for _, key := range r.Perm(many) {
		at := r.Intn(many / 4)
		h.Set(key, at)
		m[key] = at
	}
	for range many / 2 {
		key := r.Intn(many)
		if r.Intn(2) == 0 {
			isBool(t, "Cancel", h.Cancel(key), m.cancel(key))
		} else {
			at := r.Intn(many / 4)
			isBool(t, "Set", h.Set(key, at), m.set(key, at))
		}
	}
	isHeap(t, "many", h, m)
	want := keys(m.row())
	half := h.Due(many / 8)
	rest := h.Due(many)
	if len(half) == 0 || len(rest) == 0 {
		t.Errorf("%d, then %d are told", len(half), len(rest))
	}
	if !slices.Equal(append(half, rest...), want) || h.Len() != 0 {
		t.Error("not all are told in their row")
	}
}
