package locks_test

import (
	"math"
	"slices"
	"strconv"
	"testing"

	"hibernacle/api"
	"hibernacle/locks"
)

// named is a name of some numbers.
func named(name string, l ...int) string {
	for _, n := range l {
		name += " " + strconv.Itoa(n)
	}
	return name
}

// locked is a model of three mutexes and two conditions: one mutex has an owner (-1: none), and so many wait for it, and for each condition; the other mutexes have what is neither.
func locked(m, owner, waiting int, conds ...int) *model {
	s := fresh(3, len(conds), 1, 0)
	s.owners[(m+1)%3], s.lockq[(m+1)%3] = 90, []int{91, 92}
	s.owners[m], s.lockq[m] = owner, numbers(20, waiting)
	for i, n := range conds {
		s.waitq[i] = numbers(40+10*i, n)
	}
	s.downq[1] = []int{93}
	return s
}

// P9.1

func TestNew(t *testing.T) {
	for mutexes := range 10 {
		for conds := range 10 {
			for n := range 10 {
				name := named("New", mutexes, conds, n)
				semas := numbers(-1, n)
				c := locks.New(mutexes, conds, semas...)
				isState(t, name, c, fresh(mutexes, conds, semas...))
				isElse(t, name, c, api.Core{})
				if !locks.Free(c) {
					t.Errorf("%s: not free", name)
				}
			}
		}
	}
	isState(t, "many", locks.New(1000, 2000, 100, 0, math.MaxInt), fresh(1000, 2000, 100, 0, math.MaxInt))
}

// The counts are not kept: neither they nor the state change with the other.
func TestNewKeepsNoCounts(t *testing.T) {
	semas := []int{3, 4, 5, mark, mark}[:3]
	c := locks.New(0, 0, semas...)
	locks.Down(&c, 0, 1)
	locks.Up(&c, 2)
	if !slices.Equal(semas[:5], []int{3, 4, 5, mark, mark}) {
		t.Errorf("the counts that were handed in: %v", semas[:5])
	}
	clear(semas)
	if !slices.Equal(c.Counts, []int{2, 4, 6}) {
		t.Errorf("the state's counts: %v", c.Counts)
	}
}

func TestStatesAreTheirOwn(t *testing.T) {
	a, b := locks.New(2, 2, 1, 1), locks.New(2, 2, 1, 1)
	locks.Lock(&a, 0, 1)
	locks.Lock(&a, 0, 2)
	locks.Wait(&a, 1, 0, 1)
	locks.Down(&a, 1, 3)
	locks.Down(&a, 1, 4)
	isState(t, "b", b, fresh(2, 2, 1, 1))
	isState(t, "a", a, &model{[]int{2, -1}, []int{1, 0}, [][]int{nil, nil}, [][]int{nil, {1}}, [][]int{nil, {4}}})
}

func TestTheExample(t *testing.T) {
	c := locks.New(1, 0)
	if !locks.Lock(&c, 0, 5) || locks.Lock(&c, 0, 6) {
		t.Error("Lock")
	}
	if to, e := locks.Unlock(&c, 0, 5); to != 6 || e != api.OK {
		t.Errorf("Unlock: %d, %v", to, e)
	}
	if to, e := locks.Unlock(&c, 0, 5); to != -1 || e != api.ErrState {
		t.Errorf("Unlock of one that was handed on: %d, %v", to, e)
	}
	if to, e := locks.Unlock(&c, 0, 6); to != -1 || e != api.OK || !locks.Free(c) {
		t.Errorf("Unlock of the last one: %d, %v", to, e)
	}
}

func TestLock(t *testing.T) {
	for m := range 3 {
		for _, who := range []int{0, 1, 31, 1000, math.MaxInt} {
			does(t, named("Lock of no one's", m, who), locked(m, -1, 0, 1), func(c *api.Core, s *model) bool {
				return locks.Lock(c, m, who) && s.lock(m, who)
			})
			for n := range 8 {
				does(t, named("Lock of another's", m, who, n), locked(m, 5, n, 1), func(c *api.Core, s *model) bool {
					return !locks.Lock(c, m, who) && !s.lock(m, who)
				})
			}
		}
	}
}

// A mutex of the thread 0 is not no one's, and who locks one that is its own waits for it as others do.
func TestLockOfOnesOwn(t *testing.T) {
	for _, who := range []int{0, 7} {
		does(t, named("Lock of one's own", who), locked(1, who, 0, 0), func(c *api.Core, s *model) bool {
			return !locks.Lock(c, 1, who) && !s.lock(1, who) && slices.Equal(c.LockQ[1], []int{who})
		})
		does(t, named("Lock of one's own, behind others", who), locked(1, who, 2, 0), func(c *api.Core, s *model) bool {
			return !locks.Lock(c, 1, who) && !s.lock(1, who) && slices.Equal(c.LockQ[1], []int{20, 21, who})
		})
	}
}

// unlocks asks Unlock of a model's state.
func unlocks(t *testing.T, name string, s *model, m, who, to int, e api.Errno) {
	t.Helper()
	does(t, name, s, func(c *api.Core, s *model) bool {
		got, ge := locks.Unlock(c, m, who)
		want, we := s.unlock(m, who)
		return got == to && ge == e && want == to && we == e
	})
}

func TestUnlock(t *testing.T) {
	for m := range 3 {
		for _, who := range []int{0, 5, 31} {
			unlocks(t, named("Unlock", m, who), locked(m, who, 0, 1), m, who, -1, api.OK)
			for n := 1; n < 8; n++ {
				unlocks(t, named("Unlock, others wait", m, who, n), locked(m, who, n, 1), m, who, 20, api.OK)
			}
		}
		zero := locked(m, 4, 0, 1)
		zero.lockq[m] = []int{0, 4, 3}
		unlocks(t, named("Unlock, 0 waits", m), zero, m, 4, 0, api.OK)
	}
}

func TestUnlockOfAnothers(t *testing.T) {
	for m := range 3 {
		for n := range 4 {
			for _, who := range []int{0, 4, 6, 20, 31, math.MaxInt} {
				unlocks(t, named("Unlock of another's", m, n, who), locked(m, 5, n, 1), m, who, -1, api.ErrState)
			}
		}
		for _, who := range []int{0, 1, 20, 90} {
			unlocks(t, named("Unlock of no one's", m, who), locked(m, -1, 0, 1), m, who, -1, api.ErrState)
		}
	}
}

// P9.2

// waitsFor asks Wait of a model's state.
func waitsFor(t *testing.T, name string, s *model, cond, m, who, to int, e api.Errno) {
	t.Helper()
	does(t, name, s, func(c *api.Core, s *model) bool {
		got, ge := locks.Wait(c, cond, m, who)
		want, we := s.wait(cond, m, who)
		return got == to && ge == e && want == to && we == e
	})
}

func TestWait(t *testing.T) {
	for m := range 3 {
		for cond := range 2 {
			for n := range 4 {
				for _, who := range []int{0, 5} {
					waitsFor(t, named("Wait", m, cond, n, who), locked(m, who, 0, n, 2), cond, m, who, -1, api.OK)
					waitsFor(t, named("Wait, others lock", m, cond, n, who), locked(m, who, n+1, n, n+1), cond, m, who, 20, api.OK)
				}
				for _, who := range []int{0, 4, 6, 20, 40, 50, math.MaxInt} {
					waitsFor(t, named("Wait with another's", m, cond, n, who), locked(m, 5, n, n, 1), cond, m, who, -1, api.ErrState)
					waitsFor(t, named("Wait with no one's", m, cond, n, who), locked(m, -1, 0, n, 1), cond, m, who, -1, api.ErrState)
				}
			}
		}
	}
}

// signals asks Signal of a model's state.
func signals(t *testing.T, name string, s *model, cond, m, who int, its bool) {
	t.Helper()
	does(t, name, s, func(c *api.Core, s *model) bool {
		got, gits := locks.Signal(c, cond, m)
		want, wits := s.signal(cond, m)
		return got == who && gits == its && want == who && wits == its
	})
}

func TestSignal(t *testing.T) {
	for m := range 3 {
		for cond := range 2 {
			for n := range 4 {
				none := []int{n, n}
				none[cond] = 0
				signals(t, named("Signal to none", m, cond, n), locked(m, -1, 0, none...), cond, m, -1, false)
				signals(t, named("Signal to none, the mutex is some one's", m, cond, n), locked(m, 0, n, none...), cond, m, -1, false)
				first := 40 + 10*cond
				signals(t, named("Signal", m, cond, n), locked(m, -1, 0, n+1, n+1), cond, m, first, true)
				signals(t, named("Signal, the mutex is some one's", m, cond, n), locked(m, 0, n, n+1, n+1), cond, m, first, false)
			}
		}
	}
	zero := fresh(1, 1)
	zero.waitq[0] = []int{0, 1}
	signals(t, "Signal to 0", zero, 0, 0, 0, true)
	signals(t, "Signal to 1", zero, 0, 0, 1, false)
	signals(t, "Signal to none", zero, 0, 0, -1, false)
}

// broadcasts asks Broadcast of a model's state; what it answers is new.
func broadcasts(t *testing.T, name string, s *model, cond, m int, all []int, owner int) {
	t.Helper()
	does(t, name, s, func(c *api.Core, s *model) bool {
		got, gowner := locks.Broadcast(c, cond, m)
		want, wowner := s.broadcast(cond, m)
		same := slices.Equal(got, all) && gowner == owner && slices.Equal(want, all) && wowner == owner
		clear(got[:cap(got)])
		return same
	})
}

func TestBroadcast(t *testing.T) {
	for m := range 3 {
		for cond := range 2 {
			for n := range 6 {
				none := []int{n, n}
				none[cond] = 0
				broadcasts(t, named("Broadcast to none", m, cond, n), locked(m, -1, 0, none...), cond, m, nil, -1)
				broadcasts(t, named("Broadcast to none, the mutex is some one's", m, cond, n), locked(m, 0, n, none...), cond, m, nil, -1)
				all := numbers(40+10*cond, n+1)
				broadcasts(t, named("Broadcast", m, cond, n), locked(m, -1, 0, n+1, n+1), cond, m, all, all[0])
				broadcasts(t, named("Broadcast, the mutex is some one's", m, cond, n), locked(m, 0, n, n+1, n+1), cond, m, all, -1)
			}
		}
	}
	zero := fresh(1, 1)
	zero.waitq[0] = []int{0, 2, 1}
	broadcasts(t, "Broadcast to 0", zero, 0, 0, []int{0, 2, 1}, 0)
	broadcasts(t, "Broadcast to none", zero, 0, 0, nil, -1)
}

// A Broadcast is as many Signals as wait: all that it tells have the mutex one behind the other, in their row.
func TestBroadcastIsSignals(t *testing.T) {
	for n := range 10 {
		for _, owner := range []int{-1, 3} {
			waiting := 0
			if owner >= 0 {
				waiting = n % 3
			}
			a := locked(0, owner, waiting, n)
			b := a.clone()
			x, y := a.core(), b.core()
			l, first := locks.Broadcast(&x, 0, 0)
			for i, who := range l {
				got, its := locks.Signal(&y, 0, 0)
				if got != who || its != (who == first) || its != (owner < 0 && i == 0) {
					t.Errorf("of %d the Signal %d: %d, %v, not %d", n, i, got, its, who)
				}
			}
			a.broadcast(0, 0)
			isState(t, "Broadcast", x, a)
			isState(t, "Signals", y, a)
			for who := x.Owners[0]; who != -1; {
				if len(l) > 0 && who == l[0] {
					l = l[1:]
				}
				who, _ = locks.Unlock(&x, 0, who)
			}
			if len(l) > 0 || x.Owners[0] != -1 {
				t.Errorf("%v did not come to have the mutex, of %d", l, n)
			}
		}
	}
}

// P9.3

func TestDown(t *testing.T) {
	for i := range 2 {
		for _, count := range []int{1, 2, 3, 100, 1 << 30, math.MaxInt} {
			s := locked(0, -1, 0, 1)
			s.counts[i], s.downq[i] = count, nil
			does(t, named("Down", i, count), s, func(c *api.Core, s *model) bool {
				return locks.Down(c, i, 0) && s.down(i, 0) && c.Counts[i] == count-1
			})
		}
		for n := range 6 {
			for _, who := range []int{0, 1, 31, math.MaxInt} {
				s := locked(0, -1, 0, 1)
				s.counts[i], s.downq[i] = 0, numbers(60, n)
				does(t, named("Down without any", i, n, who), s, func(c *api.Core, s *model) bool {
					return !locks.Down(c, i, who) && !s.down(i, who)
				})
			}
		}
	}
}

func TestUp(t *testing.T) {
	for i := range 2 {
		for _, count := range []int{0, 1, 2, 99, 100, 1 << 30} {
			s := locked(0, -1, 0, 1)
			s.counts[i], s.downq[i] = count, nil
			does(t, named("Up", i, count), s, func(c *api.Core, s *model) bool {
				return locks.Up(c, i) == -1 && s.up(i) == -1 && c.Counts[i] == count+1
			})
		}
		for n := 1; n < 6; n++ {
			s := locked(0, -1, 0, 1)
			s.counts[i], s.downq[i] = 0, numbers(60, n)
			does(t, named("Up, some wait", i, n), s, func(c *api.Core, s *model) bool {
				return locks.Up(c, i) == 60 && s.up(i) == 60 && c.Counts[i] == 0
			})
		}
		s := locked(0, -1, 0, 1)
		s.counts[i], s.downq[i] = 0, []int{0, 1}
		does(t, named("Up, 0 waits", i), s, func(c *api.Core, s *model) bool {
			return locks.Up(c, i) == 0 && s.up(i) == 0
		})
	}
}

// isFree asks Free of a state of three of each kind, of which one thing was made another.
func isFree(t *testing.T, name string, want bool, make func(s *model)) {
	t.Helper()
	s := fresh(3, 3, 0, 5, 100)
	make(s)
	c := s.core()
	was := copies(rooms(c))
	if got := locks.Free(c); got != want {
		t.Errorf("%s: Free: %v", name, got)
	}
	isState(t, name, c, s)
	isElse(t, name, c, others())
	if !sameRows(rooms(c), was) {
		t.Errorf("%s: the room behind rows is changed", name)
	}
}

func TestFree(t *testing.T) {
	isFree(t, "nothing is held, or waited for", true, func(*model) {})
	for i := range 3 {
		for _, who := range []int{0, 1, 31, math.MaxInt} {
			isFree(t, named("an owner", i, who), false, func(s *model) { s.owners[i] = who })
			isFree(t, named("for a mutex", i, who), false, func(s *model) { s.lockq[i] = []int{who} })
			isFree(t, named("for a condition", i, who), false, func(s *model) { s.waitq[i] = []int{who} })
			isFree(t, named("for a semaphore", i, who), false, func(s *model) { s.downq[i] = []int{who} })
		}
		isFree(t, named("a count", i), true, func(s *model) { s.counts[i] = 7 })
	}
	if !locks.Free(api.Core{}) || !locks.Free(others()) {
		t.Error("Free of a state without these things")
	}
	empty := api.Core{Owners: []int{-1}, Counts: []int{0}, LockQ: [][]int{{}}, WaitQ: [][]int{{}}, DownQ: [][]int{{}}}
	if !locks.Free(empty) {
		t.Error("Free of rows that are empty, and not nil")
	}
}

// Nil and empty rows are one.
func TestEmptyRows(t *testing.T) {
	c := api.Core{Owners: []int{3}, Counts: []int{0}, LockQ: [][]int{{}}, WaitQ: [][]int{{}}, DownQ: [][]int{{}}}
	if who, its := locks.Signal(&c, 0, 0); who != -1 || its {
		t.Errorf("Signal: %d, %v", who, its)
	}
	if l, owner := locks.Broadcast(&c, 0, 0); len(l) != 0 || owner != -1 {
		t.Errorf("Broadcast: %v, %d", l, owner)
	}
	if to, e := locks.Unlock(&c, 0, 3); to != -1 || e != api.OK {
		t.Errorf("Unlock: %d, %v", to, e)
	}
	if who := locks.Up(&c, 0); who != -1 {
		t.Errorf("Up: %d", who)
	}
	isState(t, "empty rows", c, &model{[]int{-1}, []int{1}, [][]int{nil}, [][]int{nil}, [][]int{nil}})
}

// What the chapter does not allow ends, tells of no thread, and changes nothing.
func TestWhatIsNotAllowed(t *testing.T) {
	for _, n := range append([]int{2, 3}, far...) {
		s := fresh(2, 2, 1, 0)
		s.owners[0], s.lockq[0], s.waitq[1] = 5, []int{6}, []int{7, 8}
		c := s.core()
		changesNothing(t, named("the place", n), &c, n)
		isState(t, named("the place", n), c, s)
		isElse(t, named("the place", n), c, others())
		changesNothing(t, named("of nil, the place", n), nil, n)
		changesNothing(t, named("of no things, the place", n), &api.Core{}, n)
	}
	changesNothing(t, "of nil", nil, 0)
	changesNothing(t, "of no things", &api.Core{}, 0)
	changesNothing(t, "of no rows", &api.Core{Owners: []int{5}, Counts: []int{1}}, 0)
	for _, n := range far {
		isState(t, named("New", n), locks.New(n, n), fresh(0, 0))
	}
}

// changesNothing asks each call of things of which there is none at the place n.
func changesNothing(t *testing.T, name string, c *api.Core, n int) {
	t.Helper()
	isNone := func(call string, who int, e api.Errno) {
		t.Helper()
		if who != -1 || e != api.ErrState {
			t.Errorf("%s: %s: %d, %v", name, call, who, e)
		}
	}
	if locks.Lock(c, n, 4) || locks.Down(c, n, 4) || locks.Up(c, n) != -1 {
		t.Errorf("%s: Lock, Down or Up", name)
	}
	for _, who := range []int{-1, 0, 5} {
		to, e := locks.Unlock(c, n, who)
		isNone("Unlock", to, e)
		to, e = locks.Wait(c, 0, n, who)
		isNone("Wait with no mutex", to, e)
		to, e = locks.Wait(c, n, 0, who)
		isNone("Wait for no condition", to, e)
	}
	for _, l := range [][2]int{{n, 0}, {1, n}, {n, n}} {
		if who, its := locks.Signal(c, l[0], l[1]); who != -1 || its {
			t.Errorf("%s: Signal: %d, %v", name, who, its)
		}
		if all, owner := locks.Broadcast(c, l[0], l[1]); len(all) != 0 || owner != -1 {
			t.Errorf("%s: Broadcast: %v, %d", name, all, owner)
		}
	}
}

// No thread has a number below 0: none comes to have anything, or waits for it.
func TestNoThread(t *testing.T) {
	for _, who := range far[:8] {
		for _, owner := range []int{-1, 5} {
			s := locked(0, owner, 0, 1)
			c := s.core()
			if locks.Lock(&c, 0, who) || locks.Down(&c, 0, who) || locks.Down(&c, 1, who) {
				t.Error(named("Lock or Down of", who))
			}
			if to, e := locks.Unlock(&c, 0, who); to != -1 || e != api.ErrState {
				t.Error(named("Unlock of", who, to), e)
			}
			if to, e := locks.Wait(&c, 0, 0, who); to != -1 || e != api.ErrState {
				t.Error(named("Wait of", who, to), e)
			}
			isState(t, named("no thread", who), c, s)
		}
	}
}
