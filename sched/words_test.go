package sched_test

import (
	"math/rand"
	"testing"

	"hibernacle/api"
	"hibernacle/deque"
	"hibernacle/follow"
	"hibernacle/sched"
)

// P13.3

// All that the chapter lists is there, whatever it is promoted from.
var _ interface {
	Pick(w int, n int) (sched.Result, api.Errno)
	Tick(n int) []int
	Claim(w int, t int) api.Errno
	Park(w int) (int, api.Errno)
	Running(w int) int
	Workers() int
	Core() api.Core
	Moves() []follow.Move
	Seen() []api.Event
	Pool() *deque.Pool
	Places() [][]int
} = (*sched.Sched)(nil)

func TestRunning(t *testing.T) {
	p, c := crowd(t, 3, 0, 1)
	for _, workers := range []int{2, 3, 64} {
		s := sched.From(p, c, workers, 1)
		running := free(workers)
		isPick(t, "its own", s, 1, 0, result(sched.Took, 1))
		running[1] = 1
		isRunning(t, s, running)
		isPick(t, "its own", s, 0, 0, result(sched.Took, 0))
		running[0] = 0
		isRunning(t, s, running)
		isPark(t, "none runs any more", s, 1, 1, api.OK)
		running[1] = -1
		isRunning(t, s, running)
		isClaim(t, "at the last one", s, workers-1, 1, api.OK)
		running[workers-1] = 1
		isRunning(t, s, running)
	}
}

// isRunning asks what runs at each worker, and that nothing does where there is none.
func isRunning(t *testing.T, s *sched.Sched, want []int) {
	t.Helper()
	for w, n := range want {
		if got := s.Running(w); got != n {
			t.Errorf("at %d of %d runs %d, not %d", w, len(want), got, n)
		}
	}
	for _, w := range outside(len(want)) {
		if got := s.Running(w); got != -1 {
			t.Errorf("at %d, which is none of %d, runs %d", w, len(want), got)
		}
	}
}

func TestWorkers(t *testing.T) {
	p := program(t, in(api.Exit, 0))
	for workers := 1; workers <= api.MaxWorkers; workers++ {
		s := sched.New(p, workers, 1)
		if s.Workers() != workers || s.Pool().Workers() != workers {
			t.Errorf("%d, of the pool %d, not %d", s.Workers(), s.Pool().Workers(), workers)
		}
		places := make([][]int, workers+1)
		places[0] = row(0)
		if got := s.Places(); !sameRows(got, places) {
			t.Errorf("Places of %d workers: %v", workers, got)
		}
	}
}

// Of each worker its deque's come first, then the one that runs there; the global queue's are the last list.
func TestPlaces(t *testing.T) {
	p, c := crowd(t, 9, 0, 1, 2, 3, 4, 5, 6, 7, 8)
	s := sched.From(p, c, 3, 2)
	for _, x := range []struct {
		do   func()
		want [][]int
	}{
		{func() {}, rows(row(0, 3), row(1, 4), row(2, 5), row(6, 7, 8))},
		{func() { s.Pick(1, 0) }, rows(row(0, 3), row(1, 4), row(2, 5), row(6, 7, 8))},
		{func() { s.Claim(0, 7) }, rows(row(0, 3, 7), row(1, 4), row(2, 5), row(6, 8))},
		{func() { s.Claim(2, 0) }, rows(row(3, 7), row(1, 4), row(2, 5, 0), row(6, 8))},
		{func() { s.Park(1) }, rows(row(3, 7), row(1), row(2, 5, 0), row(6, 8, 4))},
		{func() { s.Claim(1, 2) }, rows(row(3, 7), row(1, 2), row(5, 0), row(6, 8, 4))},
		{func() { s.Park(0) }, rows(row(3), row(1, 2), row(5, 0), row(6, 8, 4, 7))},
	} {
		x.do()
		if got := s.Places(); !sameRows(got, x.want) {
			t.Errorf("%v, not %v", got, x.want)
		}
	}
}

// Pool is the one out of which is taken and stolen, not what it was.
func TestPoolIsThePool(t *testing.T) {
	p, c := crowd(t, 4, 0, 1, 2, 3)
	s := sched.From(p, c, 2, 1)
	pool := s.Pool()
	isPick(t, "its own", s, 0, 0, result(sched.Took, 0))
	if s.Pool() != pool || len(pool.Own(0)) != 0 || pool.Len() != 3 {
		t.Errorf("the pool has %v", pool.All())
	}
	pool.Pull(1)
	pool.Put(1)
	isAt(t, "what was put anew", s, row(0, -1), rows(nil, nil), 2, 3, 1)
	isPick(t, "of it", s, 1, 0, result(sched.Took, 2))
}

// What another hand put into the pool, and may not step, makes no call fail, is no move, and stands in no one's way.
func TestPoolWithOthersThings(t *testing.T) {
	p, c := crowd(t, 3, 0)
	for _, n := range append([]int{1, 2, 3, 32, -1, -2}, far...) {
		s := sched.From(p, c, 1, 1)
		isClaim(t, "its own", s, 0, 0, api.OK)
		s.Pool().Put(n)
		isPark(t, "its own", s, 0, 0, api.OK)
		for i := 0; i < 9 && len(s.Moves()) < 2; i++ {
			s.Pick(0, n)
		}
		isAt(t, "its own steps", s, row(0), rows(nil))
		isMoves(t, "its own steps", s, steps(0, 0))
		isRun(t, p, c, s)
	}
}

// If there is nothing else, what may not step runs nowhere behind the pick that finds it out.
func TestPoolWithOthersThingsAlone(t *testing.T) {
	p, c := crowd(t, 3)
	for _, n := range append([]int{0, 1, 2, 3, 32}, far...) {
		s := sched.From(p, c, 2, 1)
		s.Pool().Put(n)
		isPick(t, "what may not step", s, 0, 1, result(sched.Took, n))
		isPick(t, "what may not step", s, 0, 1, result(sched.Idle, 0))
		isModel(t, "what may not step", s, modelOf(p, c, 2, 1))
	}
}

// Calls at random, of odd numbers, on what may not be, end and do not panic.
func TestNothingPanics(t *testing.T) {
	r := rand.New(rand.NewSource(131))
	all := append([]int{0, 1, 2, 3, 9, -1, -2}, far...)
	odd := func() int { return all[r.Intn(len(all))] }
	list := func() []int {
		var l []int
		for range r.Intn(3) {
			l = append(l, odd())
		}
		return l
	}
	for range 3000 {
		p := api.Program{Mutexes: r.Intn(3) - 1, Conds: list(), Semas: list(), Chans: list(), Choices: [][]int{list()}[:r.Intn(2)], Threads: odd()}
		for range r.Intn(3) {
			p.Funcs = append(p.Funcs, api.Func{Locals: r.Intn(3) - 1, Code: []api.Instr{{Op: r.Intn(29) - 1, A: odd()}, {Op: r.Intn(27), A: r.Intn(3)}}[:r.Intn(3)]})
		}
		c := api.Core{Now: odd(), Owners: list(), Counts: list(), Bufs: [][]int{list(), list()}[:r.Intn(3)], LockQ: [][]int{list()}[:r.Intn(2)], RecvQ: [][]int{list(), list()}[:r.Intn(3)], SendQ: [][]int{list()}[:r.Intn(2)]}
		for range r.Intn(4) {
			x := api.Thread{State: r.Intn(11) - 1, On: odd(), Stack: list(), Code: odd()}
			for range r.Intn(2) {
				x.Frames = append(x.Frames, api.Frame{Func: r.Intn(3) - 1, Pc: r.Intn(4) - 1, Locals: list()})
			}
			c.Threads = append(c.Threads, x)
		}
		for _, s := range []*sched.Sched{sched.From(p, c, odd(), odd()), sched.New(p, odd(), odd())} {
			for range 12 {
				s.Pick(odd(), odd())
				s.Claim(odd(), odd())
				s.Pick(odd(), odd())
				s.Tick(odd())
				s.Park(odd())
				s.Running(odd())
			}
			if len(s.Places()) != s.Workers()+1 {
				t.Fatalf("Places: %v", s.Places())
			}
		}
	}
}
