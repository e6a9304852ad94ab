package sched_test

import (
	"testing"

	"hibernacle/api"
	"hibernacle/core"
	"hibernacle/sched"
)

// P13.1: Tick

// Each that is woken is given to the worker that its number is, round, not to one behind the other.
func TestTickGivesByNumbers(t *testing.T) {
	p, c := sleepers(t, 5, 1, 3, 1, 9, 3, 3)
	for _, x := range []struct {
		n      int
		woken  []int
		own    [][]int
		global []int
	}{
		{1, row(1, 3), rows(nil, row(1, 3)), nil},
		{2, row(1, 3), rows(nil, row(1, 3)), nil},
		{3, row(1, 3, 2, 5, 6), rows(row(2, 6), row(1, 3)), row(5)},
		{5, row(1, 3, 2, 5, 6, 0), rows(row(2, 6), row(1, 3)), row(5, 0)},
		{9, row(1, 3, 2, 5, 6, 0, 4), rows(row(2, 6), row(1, 3)), row(5, 0, 4)},
		{1 << 62, row(1, 3, 2, 5, 6, 0, 4), rows(row(2, 6), row(1, 3)), row(5, 0, 4)},
	} {
		s := sched.From(p, c, 2, 2)
		isTick(t, "ticks", s, x.n, x.woken...)
		isAt(t, "ticks", s, free(2), x.own, x.global...)
		isMoves(t, "ticks", s, ticks(x.n))
		if want, _ := core.Tick(c, x.n); !core.Same(s.Core(), want) {
			t.Errorf("%d ticks: the state is %v, not %v", x.n, s.Core(), want)
		}
	}
}

// A number is a worker's by itself, too, if there are more workers than threads.
func TestTickOfManyWorkers(t *testing.T) {
	p, c := sleepers(t, 2, 2, 2, 2, 2)
	for workers := 1; workers <= api.MaxWorkers; workers++ {
		own := make([][]int, workers)
		for i := range 5 {
			own[i%workers] = append(own[i%workers], i)
		}
		s := sched.From(p, c, workers, 8)
		isTick(t, "ticks", s, 2, 0, 1, 2, 3, 4)
		isAt(t, "ticks", s, free(workers), own)
	}
}

// Ticks that wake none are a move; what runs, and what is in the pool, stays there.
func TestTickOfNone(t *testing.T) {
	p, c := crowd(t, 3, 0, 1, 2)
	s := sched.From(p, c, 2, 1)
	isPick(t, "it", s, 1, 0, result(sched.Took, 1))
	isTick(t, "no sleeper", s, 1)
	isTick(t, "no sleeper", s, 70)
	isAt(t, "no sleeper", s, row(-1, 1), rows(row(0), nil), 2)
	isMoves(t, "no sleeper", s, ticks(1), ticks(70))
	if now := s.Core().Now; now != 71 {
		t.Errorf("the tick is %d", now)
	}
}

// Of less than one tick none goes by, and there is no move.
func TestTickBelow1(t *testing.T) {
	p, c := sleepers(t, 1, 2)
	s := sched.From(p, c, 2, 1)
	for _, n := range append([]int{0, -1, -2}, far...) {
		if n < 1 {
			isTick(t, "less than one", s, n)
		}
	}
	isModel(t, "less than one", s, modelOf(p, c, 2, 1))
	isTick(t, "one", s, 1, 0)
	isTick(t, "less than one", s, -1)
	isTick(t, "less than one", s, 0)
	isAt(t, "less than one", s, free(2), rows(row(0), nil))
	isMoves(t, "less than one", s, ticks(1))
}

// Behind the last tick there is none, yet they are moves.
func TestTickAtTheEnd(t *testing.T) {
	p, c := sleepers(t, most, most-1)
	s := sched.From(p, c, 1, 1)
	isTick(t, "all but one", s, most-1, 1)
	isTick(t, "the last one", s, 5, 0)
	isTick(t, "none is left", s, 3)
	isAt(t, "none is left", s, free(1), rows(row(1)), 0)
	isMoves(t, "none is left", s, ticks(most-1), ticks(5), ticks(3))
	if now := s.Core().Now; now != most {
		t.Errorf("the tick is %d", now)
	}
}

// One that is woken steps then like any other one.
func TestOneThatIsWokenGoesOn(t *testing.T) {
	p := program(t, in(api.Push, 2, api.Sleep, 0, api.Push, 4, api.Print, 0, api.Exit, 0))
	s := sched.New(p, 2, 1)
	isPick(t, "it", s, 0, 0, result(sched.Took, 0))
	isPick(t, "a number", s, 0, 0, result(sched.Stepped, 0))
	isPick(t, "a sleep", s, 0, 0, result(sched.Stepped, 0))
	isPick(t, "none may step", s, 0, 1, result(sched.Idle, 0))
	isTick(t, "a tick too few", s, 1)
	isPick(t, "none may step yet", s, 0, 1, result(sched.Idle, 0))
	isTick(t, "the tick", s, 1, 0)
	isPick(t, "it", s, 1, 0, result(sched.Stole, 0))
	isPick(t, "a number", s, 1, 0, result(sched.Stepped, 0))
	isPick(t, "a print", s, 1, 0, result(sched.Stepped, 0, printed(0, 4)))
	isPick(t, "the end", s, 1, 0, result(sched.Stepped, 0, ended(0, api.Fine)))
	isMoves(t, "the end", s, steps(0, 0), ticks(1), ticks(1), steps(0, 0, 0))
}
