package barrier_test

import (
	"testing"

	"hibernacle/api"
	"hibernacle/barrier"
	"hibernacle/core"
	"hibernacle/sched"
)

// P15.1

func TestNew(t *testing.T) {
	for workers := 1; workers <= api.MaxWorkers; workers++ {
		s := crowd(t, 4, workers, 1)
		was := all(s)
		b := barrier.New(s)
		isFree(t, "at first", b)
		isChanged(t, "at first", b, nil)
		if b.Sched() != s || b.Epoch() != 0 {
			t.Errorf("Sched %p, not %p; Epoch %d", b.Sched(), s, b.Epoch())
		}
		if got := all(s); got != was {
			t.Errorf("the scheduler is %s, not %s", got, was)
		}
	}
}

// A scheduler that went on already goes on from there, with what runs there.
func TestNewOfOneThatWentOn(t *testing.T) {
	s := crowd(t, 3, 2, 8)
	for range 4 {
		s.Pick(0, 0)
	}
	was := all(s)
	b := barrier.New(s)
	isFree(t, "at first", b)
	isChanged(t, "at first", b, nil)
	if got := all(s); got != was {
		t.Errorf("the scheduler is %s, not %s", got, was)
	}
	isPick(t, "what runs there", b, 0, 0, result(sched.Stepped, 2))
	isChanged(t, "a step", b, row(2))
}

// Of no scheduler there is a barrier of some kind: no call fails.
func TestNewOfNone(t *testing.T) {
	b := barrier.New(nil)
	isFree(t, "at first", b)
	for range 9 {
		b.Pick(0, 0)
	}
	b.Tick(1)
	rest(t, b)
	isMark(t, "none", b, 1, api.OK)
	isChanged(t, "none", b, nil)
	isNoPick(t, "none", b, -1, 0)
	isRelease(t, "none", b, api.OK)
}

// If it was asked for ahead it is told so, and nothing is changed.
func TestAsk(t *testing.T) {
	b := barrier.New(crowd(t, 3, 3, 1))
	isAsk(t, "the first time", b, true)
	isAsked(t, "the first time", b)
	isAsk(t, "the second time", b, false)
	isAsked(t, "the second time", b)
	for i, w := range row(2, 0, 1) {
		b.Pick(w, 0)
		isAsk(t, "some are parked", b, false)
		isAsked(t, "some are parked", b, row(2, 0, 1)[:i+1]...)
	}
	isRelease(t, "done", b, api.OK)
	isAsk(t, "anew", b, true)
	isAsked(t, "anew", b)
}

// Asking and releasing is nothing that a scheduler is told of.
func TestAskIsNoMove(t *testing.T) {
	s := crowd(t, 3, 2, 1)
	b := barrier.New(s)
	picks(b, 0, 0, 1)
	was := all(s)
	b.Ask()
	b.Ask()
	b.Release()
	b.Ask()
	if got := all(s); got != was {
		t.Errorf("the scheduler is %s, not %s", got, was)
	}
	isAsked(t, "anew", b)
}

// A worker that is picked is parked: the thread that ran there stands behind the others in the global queue. Once it is, it is idle.
func TestPick(t *testing.T) {
	s := crowd(t, 7, 3, 1)
	b := barrier.New(s)
	isPick(t, "not asked for", b, 0, 0, result(sched.Took, 0))
	isPick(t, "not asked for", b, 2, 0, result(sched.Took, 2))
	isPick(t, "not asked for", b, 2, 0, result(sched.Stepped, 2))
	isPool(t, "not asked for", s, row(0, -1, 2), 3, 4, 5, 6)
	b.Ask()
	isPick(t, "asked for", b, 2, 0, result(sched.Parked, 2))
	isPool(t, "asked for", s, row(0, -1, -1), 3, 4, 5, 6, 2)
	isAsked(t, "asked for", b, 2)
	isPick(t, "parked", b, 2, 0, result(sched.Idle, 0))
	isPick(t, "none runs there", b, 1, 0, result(sched.Parked, -1))
	isPool(t, "none runs there", s, row(0, -1, -1), 3, 4, 5, 6, 2)
	isAsked(t, "none runs there", b, 1, 2)
	isPick(t, "the thread 0", b, 0, 0, result(sched.Parked, 0))
	isPool(t, "the thread 0", s, row(-1, -1, -1), 3, 4, 5, 6, 2, 0)
	isAsked(t, "all", b, 0, 1, 2)
	for w := range 3 {
		isPick(t, "all are parked", b, w, 1, result(sched.Idle, 0))
	}
	isPool(t, "all", s, row(-1, -1, -1), 3, 4, 5, 6, 2, 0)
	isAsked(t, "all", b, 0, 1, 2)
}

// The number that a pick has is nothing to a worker that is parked, or is to be: it neither takes nor steals.
func TestPickWithAnyNumber(t *testing.T) {
	for _, n := range append(row(0, 1, 2), far...) {
		b := barrier.New(crowd(t, 6, 2, 8))
		isPick(t, "not asked for", b, 1, 0, result(sched.Took, 5))
		b.Ask()
		isPick(t, "asked for", b, 0, n, result(sched.Parked, -1))
		isPick(t, "parked", b, 0, n, result(sched.Idle, 0))
		isPick(t, "asked for", b, 1, n, result(sched.Parked, 5))
		isPick(t, "parked", b, 1, n, result(sched.Idle, 0))
		isAsked(t, "all", b, 0, 1)
	}
}

// Of no such worker it is that error, whether it is asked for, done or not, and nothing is changed.
func TestPickOfNoWorker(t *testing.T) {
	for _, workers := range row(1, 2, 63, 64) {
		s := crowd(t, 5, workers, 2)
		b := barrier.New(s)
		picks(b, 0, 0)
		bad := func(name string) {
			t.Helper()
			was, left := all(s), b.Left()
			for _, w := range outside(workers) {
				for _, n := range row(0, 1, -1, w) {
					isNoPick(t, name, b, w, n)
				}
			}
			if got := all(s); got != was || b.Left() != left {
				t.Errorf("%s: the scheduler is %s, not %s; left are %d, not %d", name, got, was, b.Left(), left)
			}
		}
		bad("not asked for")
		b.Ask()
		bad("asked for")
		isAsked(t, "asked for", b)
		b.Pick(0, 0)
		bad("one is parked")
		isParked(t, "one is parked", b, 0)
		for w := range workers {
			b.Pick(w, 0)
		}
		bad("done")
		if !b.Done() {
			t.Error("it is done no more")
		}
	}
}

// While it is not asked for a pick is the scheduler's, ahead of the first time as behind the others.
func TestPickWhileNotAskedFor(t *testing.T) {
	p := busy(t)
	for _, workers := range row(1, 2, 5) {
		b, s := barrier.New(sched.New(p, workers, 2)), sched.New(p, workers, 2)
		for i := range 400 {
			w, n := i*7%workers, i%9-4
			want, e := s.Pick(w, n)
			if got, f := b.Pick(w, n); f != e || !sameResult(got, want) {
				t.Fatalf("Pick(%d, %d): %v, error %d, not %v, %d", w, n, got, f, want, e)
			}
			if i%50 == 49 {
				rest(t, b)
				for w := range workers {
					s.Park(w)
				}
				b.Release()
				b.Tick(2)
				s.Tick(2)
			}
		}
		if all(b.Sched()) != all(s) || len(s.Moves()) < 100 {
			t.Errorf("the scheduler is %s, not %s", all(b.Sched()), all(s))
		}
	}
}

// Just when each worker was picked it is done, in whatever row that is; with one worker, by one pick.
func TestDone(t *testing.T) {
	for workers := 1; workers <= api.MaxWorkers; workers++ {
		b := barrier.New(crowd(t, 9, workers, 1))
		picks(b, 0, workers-1, workers/2)
		b.Ask()
		var parked []int
		for i := range workers {
			isAsked(t, "some are left", b, parked...)
			w := (i*i + i) / 2 % workers
			for b.Parked(w) {
				w = (w + 1) % workers
			}
			parked = append(parked, w)
			b.Pick(w, 0)
		}
		isAsked(t, "all", b, parked...)
	}
}

// What is woken meanwhile is given to workers, which are parked still.
func TestTickWhileParked(t *testing.T) {
	s := sleepers(t, 2, 3, 3, 5)
	b := barrier.New(s)
	b.Ask()
	b.Pick(1, 0)
	if got := b.Tick(3); len(got) != 2 || got[0] != 0 || got[1] != 1 {
		t.Errorf("Tick(3): %v", got)
	}
	isAsked(t, "a tick", b, 1)
	isChanged(t, "a tick", b, row(0, 1))
	isPick(t, "a thread is there", b, 1, 0, result(sched.Idle, 0))
	isPick(t, "a thread is there", b, 0, 0, result(sched.Parked, -1))
	isAsked(t, "done", b, 0, 1)
	s.Tick(2)
	isAsked(t, "still done", b, 0, 1)
	isPick(t, "a thread is there", b, 0, 1, result(sched.Idle, 0))
	isPool(t, "still done", s, row(-1, -1), 2)
	isMark(t, "still done", b, 1, api.OK)
	b.Release()
	isPick(t, "released", b, 0, 0, result(sched.Took, 0))
	isPick(t, "released", b, 1, 0, result(sched.Took, 1))
}

// All that the chapter lists is there, and the scheduler's methods are promoted.
var _ interface {
	Ask() bool
	Pick(w int, n int) (sched.Result, api.Errno)
	Done() bool
	Left() int
	Parked(w int) bool
	Release() api.Errno
	Mark() (int, api.Errno)
	Epoch() int
	Threads() []int
	Things() []barrier.Thing
	Sched() *sched.Sched
	Tick(n int) []int
	Core() api.Core
	Seen() []api.Event
} = (*barrier.Barrier)(nil)

// What is promoted is the scheduler's own.
func TestPromoted(t *testing.T) {
	s := crowd(t, 3, 2, 1)
	b := barrier.New(s)
	picks(b, 0, 0, 1, 1, 0)
	b.Tick(4)
	if !core.Same(b.Core(), s.Core()) || b.Core().Now != 4 || len(b.Moves()) != 4 || len(b.Seen()) != 1 || b.Workers() != 2 || b.Running(1) != 1 || b.Pool() != s.Pool() {
		t.Errorf("%v, not %v", b, s)
	}
}
