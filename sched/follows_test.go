package sched_test

import (
	"math/rand"
	"slices"
	"testing"

	"hibernacle/api"
	"hibernacle/core"
	"hibernacle/follow"
	"hibernacle/sched"
)

// P13.4, P13.5, T1

// isRun asks that a scheduler that was made of a state is as a run of its moves from there.
func isRun(t *testing.T, p api.Program, c api.Core, s *sched.Sched) {
	t.Helper()
	moves := s.Moves()
	want, seen, n, e := follow.Run(p, c, moves)
	if n != len(moves) || e != api.OK {
		t.Fatalf("the move %d of %v does not go: error %d", n, moves, e)
	}
	if got := s.Core(); !core.Same(got, want) {
		t.Fatalf("the state is %v, not %v", got, want)
	}
	if got := s.Seen(); !slices.Equal(got, seen) {
		t.Fatalf("%v was seen, not %v", got, seen)
	}
}

// isPlaced asks that each thread that is Ready is in just one place, and nothing else is in any.
func isPlaced(t *testing.T, s *sched.Sched) {
	t.Helper()
	all := slices.Concat(s.Places()...)
	slices.Sort(all)
	if want := core.Ready(s.Core()); !slices.Equal(all, want) {
		t.Fatalf("in Places stand %v, Ready are %v", s.Places(), want)
	}
}

// isCall is one call of some kind, of a worker and numbers by chance, and asks that it answers what the model does.
func isCall(t *testing.T, r *rand.Rand, s *sched.Sched, m *model) {
	t.Helper()
	w, n := r.Intn(s.Workers()), r.Intn(2*s.Workers()+2)-s.Workers()-1
	if r.Intn(30) == 0 {
		l := outside(s.Workers())
		w, n = l[r.Intn(len(l))], far[r.Intn(len(far))]
	}
	switch k := r.Intn(40); {
	case k < 6:
		want := m.tick(n % 4)
		isTick(t, "by chance", s, n%4, want...)
	case k < 8:
		n = r.Intn(len(m.c.Threads) + 1)
		want := m.claim(w, n)
		isClaim(t, "by chance", s, w, n, want)
	case k < 9:
		want, e := m.park(w)
		isPark(t, "by chance", s, w, want, e)
	default:
		want, e := m.pick(t, w, n)
		if got, f := s.Pick(w, n); f != e || !sameResult(got, want) {
			t.Errorf("Pick(%d, %d): %v, error %d, not %v, %d", w, n, got, f, want, e)
		}
	}
}

// Whatever is called, in whatever row, a scheduler tells the same as its model, its state is that behind its moves, and all are at their places.
func TestSchedulersAreTheModel(t *testing.T) {
	r := rand.New(rand.NewSource(132))
	went := 0
	for range 120 {
		p := anyProgram(t, r)
		workers, room := 1+r.Intn(5), 1+r.Intn(4)
		s, m := sched.New(p, workers, room), modelOf(p, core.New(p), workers, room)
		for range 150 {
			isCall(t, r, s, m)
			isModel(t, "by chance", s, m)
			isPlaced(t, s)
			if t.Failed() {
				return
			}
		}
		isRun(t, p, core.New(p), s)
		went += len(m.moves)
	}
	if went < 120*50 {
		t.Errorf("only %d moves went, so that this test asks little", went)
	}
}

// A scheduler of a state that another one came to is one like any other: of its moves the state is that behind them, from there on.
func TestSchedulersOfStates(t *testing.T) {
	r := rand.New(rand.NewSource(133))
	for range 60 {
		p := anyProgram(t, r)
		c := core.New(p)
		for range 5 {
			workers, room := 1+r.Intn(api.MaxWorkers), 1+r.Intn(api.MaxDeque)
			s, m := sched.From(p, c, workers, room), modelOf(p, c, workers, room)
			isModel(t, "of a state", s, m)
			for range 60 {
				isCall(t, r, s, m)
				isPlaced(t, s)
			}
			isModel(t, "of a state", s, m)
			isRun(t, p, c, s)
			c = s.Core()
		}
		if t.Failed() {
			return
		}
	}
}

// On each number of workers what was seen is a trace of the model without workers, and each pick is one step of it, or none.
func TestWhatIsSeenIsATrace(t *testing.T) {
	r := rand.New(rand.NewSource(134))
	shown, stolen := 0, 0
	for workers := 1; workers <= api.MaxWorkers; workers++ {
		p := anyProgram(t, r)
		s := sched.New(p, workers, 1+r.Intn(api.MaxDeque))
		for range 1000 {
			moves, seen := len(s.Moves()), len(s.Seen())
			got, e := s.Pick(r.Intn(workers), r.Intn(200)-100)
			if e != api.OK {
				t.Fatalf("a pick of a worker: error %d", e)
			}
			if got.Kind == sched.Stole {
				stolen++
			}
			isOneStepOrNone(t, s, got, moves, seen)
			if got.Kind == sched.Idle && r.Intn(5) == 0 {
				s.Tick(r.Intn(4) - 1)
			}
		}
		if n, e := follow.Check(p, s.Moves(), s.Seen()); n != -1 || e != api.OK {
			t.Errorf("of %d workers: no trace at %d, error %d", workers, n, e)
		}
		shown += len(s.Seen())
	}
	if shown < 1000 || stolen < 100 {
		t.Errorf("only %d events were seen, and %d threads stolen", shown, stolen)
	}
}

// isOneStepOrNone asks of a pick, ahead of which so many moves had gone and so many events were seen, that it is a move just if it is a step of that thread, and that it tells what was seen by it.
func isOneStepOrNone(t *testing.T, s *sched.Sched, got sched.Result, moves, seen int) {
	t.Helper()
	want := []follow.Move(nil)
	if got.Kind == sched.Stepped {
		want = steps(got.Thread)
	}
	if l := s.Moves()[moves:]; !slices.Equal(l, want) {
		t.Errorf("%v: the moves %v", got, l)
	}
	if l := s.Seen()[seen:]; !slices.Equal(l, got.Seen) {
		t.Errorf("%v: %v was seen", got, l)
	}
}

// Picks of all workers, round, and ticks when all are idle, let each program that ends come to its end, on each number of workers.
func TestAllComeToTheirEnd(t *testing.T) {
	p := program(t,
		in(api.Spawn, 1, api.Spawn, 1, api.Spawn, 2, api.Join, 0, api.Pop, 0, api.Join, 0, api.Pop, 0, api.Join, 0, api.Print, 0, api.Exit, 0),
		in(api.Lock, 0, api.Yield, 0, api.Push, 3, api.Sleep, 0, api.Unlock, 0, api.Push, 7, api.Send, 0, api.Ret, 0),
		in(api.Recv, 0, api.Print, 0, api.Recv, 0, api.Print, 0, api.Pop, 0),
	)
	for workers := 1; workers <= api.MaxWorkers; workers++ {
		s := sched.New(p, workers, 1)
		for i := 0; i < 1000 && !core.Over(s.Core()); i++ {
			idle := true
			for w := range workers {
				r, _ := s.Pick(w, w+i+1)
				idle = idle && r.Kind == sched.Idle
			}
			if at, ok := core.Next(s.Core()); ok && idle {
				s.Tick(at - s.Core().Now)
			}
		}
		if !core.Over(s.Core()) {
			t.Errorf("%d workers: it came to %v", workers, s.Places())
		}
		isPlaced(t, s)
		isRun(t, p, core.New(p), s)
		if got := follow.Out(s.Seen(), 3); !slices.Equal(got, row(7, 7)) {
			t.Errorf("%d workers: 3 printed %v", workers, got)
		}
	}
}
