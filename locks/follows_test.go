package locks_test

import (
	"math/rand"
	"slices"
	"testing"

	"hibernacle/api"
	"hibernacle/locks"
)

// P9.4

// fits asks what follows of a state that calls brought it to.
func fits(t *testing.T, name string, c api.Core) {
	t.Helper()
	for m, owner := range c.Owners {
		if owner == -1 && len(c.LockQ[m]) > 0 {
			t.Errorf("%s: %v wait for the mutex %d, that is no one's", name, c.LockQ[m], m)
		}
	}
	for s, count := range c.Counts {
		if count > 0 && len(c.DownQ[s]) > 0 {
			t.Errorf("%s: %v wait for the semaphore %d, whose count is %d", name, c.DownQ[s], s, count)
		}
	}
	all := slices.Concat(slices.Concat(c.LockQ...), slices.Concat(c.WaitQ...), slices.Concat(c.DownQ...))
	slices.Sort(all)
	if len(slices.Compact(slices.Clone(all))) != len(all) {
		t.Errorf("%s: one waits for two things: %v", name, all)
	}
}

// crowd is threads that call, as long as they wait for nothing: a state, its model, of each condition its mutex, and of each thread whether it waits.
type crowd struct {
	c     api.Core
	s     *model
	conds []int
	waits []bool
}

// gather is a crowd of some threads, and of some things of each kind.
func gather(r *rand.Rand) *crowd {
	mutexes := 1 + r.Intn(3)
	conds := make([]int, 1+r.Intn(3))
	for i := range conds {
		conds[i] = r.Intn(mutexes)
	}
	semas := make([]int, 1+r.Intn(3))
	for i := range semas {
		semas[i] = r.Intn(4)
	}
	return &crowd{
		c:     locks.New(mutexes, len(conds), semas...),
		s:     fresh(mutexes, len(conds), semas...),
		conds: conds,
		waits: make([]bool, 1+r.Intn(12)),
	}
}

// free is a thread that waits for nothing, and whether there is any.
func (w *crowd) free(r *rand.Rand) (int, bool) {
	for _, t := range r.Perm(len(w.waits)) {
		if !w.waits[t] {
			return t, true
		}
	}
	return 0, false
}

// goes lets one go on that waited; -1 is none.
func (w *crowd) goes(t *testing.T, who int) {
	t.Helper()
	if who == -1 {
		return
	}
	if !w.waits[who] {
		t.Errorf("%d goes on, and did not wait", who)
	}
	w.waits[who] = false
}

// step is one call of some kind of a thread that waits for nothing, and asks that it answers what the model does.
func (w *crowd) step(t *testing.T, r *rand.Rand, who int) {
	t.Helper()
	m, s, cond := r.Intn(len(w.s.owners)), r.Intn(len(w.s.counts)), r.Intn(len(w.conds))
	if own := slices.Index(w.s.owners, who); own >= 0 && r.Intn(8) > 0 {
		m = own
	}
	same := true
	switch r.Intn(8) {
	case 0:
		got, want := locks.Lock(&w.c, m, who), w.s.lock(m, who)
		same = got == want
		w.waits[who] = !want
	case 1, 2:
		got, ge := locks.Unlock(&w.c, m, who)
		want, we := w.s.unlock(m, who)
		same = got == want && ge == we
		w.goes(t, want)
	case 3:
		got, ge := locks.Wait(&w.c, cond, w.conds[cond], who)
		want, we := w.s.wait(cond, w.conds[cond], who)
		same = got == want && ge == we
		w.goes(t, want)
		w.waits[who] = we == api.OK
	case 4:
		got, its := locks.Signal(&w.c, cond, w.conds[cond])
		want, wits := w.s.signal(cond, w.conds[cond])
		same = got == want && its == wits
		if wits {
			w.goes(t, want)
		}
	case 5:
		got, owner := locks.Broadcast(&w.c, cond, w.conds[cond])
		want, wowner := w.s.broadcast(cond, w.conds[cond])
		same = slices.Equal(got, want) && owner == wowner
		w.goes(t, wowner)
	case 6:
		got, want := locks.Down(&w.c, s, who), w.s.down(s, who)
		same = got == want
		w.waits[who] = !want
	case 7:
		got, want := locks.Up(&w.c, s), w.s.up(s)
		same = got == want
		w.goes(t, want)
	}
	if !same {
		t.Errorf("a call of %d answers something else than the model", who)
	}
}

// Threads that call what they may are told the same as the model, and come to nothing but what follows.
func TestCrowdsAreTheModel(t *testing.T) {
	r := rand.New(rand.NewSource(91))
	stuck := 0
	for range 400 {
		w := gather(r)
		for range 300 {
			who, ok := w.free(r)
			if !ok {
				stuck++
				break
			}
			w.step(t, r, who)
			isState(t, "a crowd", w.c, w.s)
			isElse(t, "a crowd", w.c, api.Core{})
			fits(t, "a crowd", w.c)
			w.isAsItWaits(t)
			if t.Failed() {
				return
			}
		}
	}
	if stuck == 0 || stuck == 400 {
		t.Errorf("of 400 crowds %d came to where all wait", stuck)
	}
}

// isAsItWaits asks that just those stand in some row that wait.
func (w *crowd) isAsItWaits(t *testing.T) {
	t.Helper()
	rows := slices.Concat(slices.Concat(w.c.LockQ...), slices.Concat(w.c.WaitQ...), slices.Concat(w.c.DownQ...))
	for who, waits := range w.waits {
		if slices.Contains(rows, who) != waits {
			t.Errorf("%d waits: %v; it stands in a row: %v", who, waits, !waits)
		}
	}
}

// All that wait for a mutex have it one behind the other, in the row in which they came, and no two at once.
func TestTheRowOfAMutex(t *testing.T) {
	c := locks.New(1, 1)
	const many = 32
	for who := range many {
		if locks.Lock(&c, 0, who) != (who == 0) {
			t.Errorf("Lock of %d", who)
		}
	}
	for who := range many - 1 {
		for other := range many {
			if other != who {
				to, e := locks.Unlock(&c, 0, other)
				if to != -1 || e != api.ErrState {
					t.Errorf("%d has it, and %d unlocks it: %d, %v", who, other, to, e)
				}
			}
		}
		if to, e := locks.Wait(&c, 0, 0, who); to != who+1 || e != api.OK {
			t.Errorf("Wait of %d: %d, %v", who, to, e)
		}
	}
	l, owner := locks.Broadcast(&c, 0, 0)
	if !slices.Equal(l, numbers(0, many-1)) || owner != -1 {
		t.Errorf("Broadcast: %v, %d", l, owner)
	}
	for who := range many {
		from := (who + many - 1) % many
		want := (from + 1) % many
		if who == many-1 {
			want = -1
		}
		if to, e := locks.Unlock(&c, 0, from); to != want || e != api.OK {
			t.Errorf("Unlock of %d: %d, %v", from, to, e)
		}
	}
	if !locks.Free(c) {
		t.Error("not free at the end")
	}
}

// As many are let through as were counted, and let through since, in the row in which they came.
func TestTheRowOfASemaphore(t *testing.T) {
	for count := range 5 {
		c := locks.New(0, 0, 9, count)
		for who := range 20 {
			if locks.Down(&c, 1, who) != (who < count) {
				t.Errorf("the count %d: Down of %d", count, who)
			}
		}
		for who := count; who < 20; who++ {
			if got := locks.Up(&c, 1); got != who {
				t.Errorf("the count %d: Up: %d, not %d", count, got, who)
			}
		}
		for i := range 3 {
			if got := locks.Up(&c, 1); got != -1 || c.Counts[1] != i+1 {
				t.Errorf("the count %d: Up of none: %d, the count %d", count, got, c.Counts[1])
			}
		}
		if c.Counts[0] != 9 || !locks.Free(c) {
			t.Errorf("the count %d: another one: %d", count, c.Counts[0])
		}
	}
}

// A row that was handed out of a state stays as it was, whatever becomes of the state.
func TestRowsStay(t *testing.T) {
	c := locks.New(1, 1, 0)
	for who := range 6 {
		locks.Lock(&c, 0, who)
		locks.Down(&c, 0, 10+who)
	}
	for who := range 3 {
		locks.Wait(&c, 0, 0, who)
	}
	rows := [][]int{c.LockQ[0], c.WaitQ[0], c.DownQ[0]}
	was := copies(rows)
	l, _ := locks.Broadcast(&c, 0, 0)
	for range 4 {
		locks.Unlock(&c, 0, c.Owners[0])
		locks.Up(&c, 0)
		locks.Lock(&c, 0, 70)
		locks.Down(&c, 0, 71)
	}
	if !sameRows(rows, was) || !slices.Equal(l, []int{0, 1, 2}) {
		t.Errorf("%v, not %v; %v", rows, was, l)
	}
}
