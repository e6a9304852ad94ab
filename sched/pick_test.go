package sched_test

import (
	"math"
	"slices"
	"testing"

	"hibernacle/api"
	"hibernacle/core"
	"hibernacle/sched"
)

// P13.1: Pick

func TestKinds(t *testing.T) {
	if sched.Idle != 0 || sched.Took != 1 || sched.Stole != 2 || sched.Stepped != 3 || sched.Parked != 4 {
		t.Errorf("%d, %d, %d, %d, %d", sched.Idle, sched.Took, sched.Stole, sched.Stepped, sched.Parked)
	}
}

// The example of the chapter.
func TestTheExample(t *testing.T) {
	s := sched.New(program(t, in(api.Push, 5, api.Print, 0, api.Exit, 0)), 1, 1)
	isPick(t, "the first pick", s, 0, 0, result(1, 0))
	isAt(t, "the first pick", s, row(0), rows(nil))
	isMoves(t, "the first pick", s)
	isPick(t, "the second pick", s, 0, 0, result(3, 0))
	isMoves(t, "the second pick", s, steps(0))
	isPick(t, "the third pick", s, 0, 0, result(3, 0, printed(0, 5)))
	isAt(t, "the third pick", s, row(0), rows(nil))
	isPick(t, "the fourth pick", s, 0, 0, result(3, 0, ended(0, 0)))
	isAt(t, "the fourth pick", s, free(1), rows(nil))
	for range 3 {
		isPick(t, "one more", s, 0, 0, result(0, 0))
	}
	isAt(t, "at the end", s, free(1), rows(nil))
	isMoves(t, "at the end", s, steps(0, 0, 0))
	if got := s.Seen(); !slices.Equal(got, events(printed(0, 5), ended(0, 0))) || !core.Over(s.Core()) {
		t.Errorf("at the end %v was seen, the state is %v", got, s.Core())
	}
}

// With no such worker nothing is changed, whatever the number is.
func TestPickOfNoWorker(t *testing.T) {
	p, c := crowd(t, 6, 0, 1, 2, 3, 4, 5)
	for _, workers := range []int{1, 2, 64} {
		s, m := sched.From(p, c, workers, 1), modelOf(p, c, workers, 1)
		for range 2 {
			for _, w := range outside(workers) {
				for _, n := range []int{0, 1, w, math.MinInt} {
					if got, e := s.Pick(w, n); e != api.ErrRange || !sameResult(got, sched.Result{}) {
						t.Errorf("Pick(%d, %d) of %d workers: %v, error %d", w, n, workers, got, e)
					}
				}
			}
			isModel(t, "no such worker", s, m)
			s.Pick(workers-1, 0)
			m.pick(t, workers-1, 0)
		}
	}
}

// Its own deque comes first, from the bottom; then the global queue, from the first one; then the other one's deque, from the top.
func TestWhereAThreadComesFrom(t *testing.T) {
	p := program(t, in(api.Exit, 0))
	s := sched.From(p, stand(p, make([]int, 7)...), 2, 2)
	isAt(t, "at first", s, free(2), rows(row(0, 2), row(1, 3)), 4, 5, 6)
	for _, want := range []sched.Result{
		result(sched.Took, 2), result(sched.Took, 0),
		result(sched.Took, 4), result(sched.Took, 5), result(sched.Took, 6),
		result(sched.Stole, 1), result(sched.Stole, 3),
	} {
		isPick(t, "one", s, 0, 1, want)
		isPick(t, "its end", s, 0, 1, result(sched.Stepped, want.Thread, ended(want.Thread, api.Fine)))
	}
	isPick(t, "none is left", s, 0, 1, result(sched.Idle, 0))
	isMoves(t, "none is left", s, steps(2, 0, 4, 5, 6, 1, 3))
}

// A thread that is taken, or stolen, is no further by that: it is no move.
func TestTakingAndStealingAreNoMoves(t *testing.T) {
	p, c := crowd(t, 3, 0, 1, 2)
	s := sched.From(p, c, 1, 1)
	isPick(t, "taken of its own", s, 0, 0, result(sched.Took, 0))
	isUnmoved(t, "taken of its own", s, c)
	isAt(t, "taken of its own", s, row(0), rows(nil), 1, 2)

	s = sched.From(p, c, 2, 1)
	isPick(t, "taken of its own", s, 1, 0, result(sched.Took, 1))
	isPark(t, "parked", s, 1, 1, api.OK)
	isPick(t, "taken of the global queue", s, 1, 0, result(sched.Took, 2))
	isUnmoved(t, "taken of the global queue", s, c)
	isAt(t, "taken of the global queue", s, row(-1, 2), rows(row(0), nil), 1)

	s = sched.From(p, c, 4, 1)
	isPick(t, "stolen", s, 3, 1, result(sched.Stole, 1))
	isUnmoved(t, "stolen", s, c)
	isAt(t, "stolen", s, row(-1, -1, -1, 1), rows(row(0), nil, row(2), nil))
}

// isUnmoved asks that nothing went so far, from c on.
func isUnmoved(t *testing.T, name string, s *sched.Sched, c api.Core) {
	t.Helper()
	isMoves(t, name, s)
	if !core.Same(s.Core(), c) || len(s.Seen()) != 0 {
		t.Errorf("%s: the state is %v, %v was seen", name, s.Core(), s.Seen())
	}
}

// From whom is stolen: of each number, near and far, of each worker that there may be.
func TestFromWhomIsStolen(t *testing.T) {
	p, c := crowd(t, 1, 0)
	numbers := far
	for n := -200; n <= 200; n++ {
		numbers = append(numbers, n)
	}
	for _, workers := range []int{1, 2, 3, 5, 64} {
		for _, n := range numbers {
			from := n
			if n < 0 {
				from = -(n + 1)
			}
			from %= workers
			for _, has := range []int{from, (from + 1) % workers} {
				isStolen(t, sched.From(p, c, workers, 1), n, from, has)
			}
		}
	}
}

// isStolen asks, of a scheduler whose one thread is moved to the worker has, that the number n is the worker from.
func isStolen(t *testing.T, s *sched.Sched, n, from, has int) {
	t.Helper()
	s.Pool().Pull(0)
	s.Pool().Give(has, 0)
	w := (from + 2) % s.Workers()
	want := result(sched.Idle, 0)
	switch {
	case w == has:
		want = result(sched.Took, 0)
	case from == has && w != from:
		want = result(sched.Stole, 0)
	}
	isPick(t, "from another one", s, w, n, want)
}

// The numbers that the words name, one by one.
func TestNumbersBelow0(t *testing.T) {
	for _, x := range []struct{ n, from int }{
		{0, 0}, {1, 1}, {2, 2}, {3, 0}, {4, 1}, {math.MaxInt, 1}, {math.MaxInt - 1, 0},
		{-1, 0}, {-2, 1}, {-3, 2}, {-4, 0}, {-5, 1}, {math.MinInt, 1}, {math.MinInt + 1, 0},
	} {
		p, c := crowd(t, 6, 0, 1, 2, 3, 4, 5)
		s := sched.From(p, c, 3, 2)
		isAt(t, "at first", s, free(3), rows(row(0, 3), row(1, 4), row(2, 5)))
		w := (x.from + 1) % 3
		s.Pool().Pull(w)
		s.Pool().Pull(w + 3)
		isPick(t, "stolen", s, w, x.n, result(sched.Stole, x.from))
		s.Park(w)
		s.Pool().Pull(x.from)
		isPick(t, "from itself", s, w, w, result(sched.Idle, 0))
	}
}

// What runs at a worker is not stolen, nor what another one than that has.
func TestWhatIsNotStolen(t *testing.T) {
	p, c := crowd(t, 2, 0, 1)
	s := sched.From(p, c, 4, 1)
	isPick(t, "its own", s, 0, 0, result(sched.Took, 0))
	isPick(t, "of one at which one runs, that has no other", s, 2, 0, result(sched.Idle, 0))
	isPick(t, "of one that has none", s, 2, 3, result(sched.Idle, 0))
	isPick(t, "of itself", s, 2, 2, result(sched.Idle, 0))
	isPick(t, "of itself, round", s, 2, 6, result(sched.Idle, 0))
	isPick(t, "of itself, below 0", s, 2, -3, result(sched.Idle, 0))
	isAt(t, "idle", s, row(0, -1, -1, -1), rows(nil, row(1), nil, nil))
	isMoves(t, "idle", s)
	isPick(t, "of the one that has one", s, 2, 1, result(sched.Stole, 1))
	isAt(t, "stolen", s, row(0, -1, 1, -1), rows(nil, nil, nil, nil))
}

// It runs there still behind each instruction that asks for nothing, or is met at once, and steps with any number.
func TestOneRunsOn(t *testing.T) {
	p := program(t, in(api.Push, 3, api.Dup, 0, api.Add, 0, api.Set, 0, api.Get, 0, api.Print, 0, api.Jump, 7, api.Call, 1, api.Lock, 0, api.Unlock, 0, api.Down, 1, api.Up, 0, api.Push, 9, api.Send, 1, api.Recv, 1, api.Signal, 0, api.Broadcast, 0, api.Push, 0, api.Sleep, 0, api.Spawn, 1, api.Print, 0), in(api.Ret, 0))
	s := sched.From(p, stand(p, 0, 1), 1, 8)
	isClaim(t, "it", s, 0, 0, api.OK)
	for i := range 22 {
		r, e := s.Pick(0, i-9)
		if e != api.OK || r.Kind != sched.Stepped || r.Thread != 0 || s.Running(0) != 0 {
			t.Fatalf("the step %d: %v, error %d, at 0 runs %d", i, r, e, s.Running(0))
		}
	}
	isAt(t, "behind it", s, row(0), rows(row(1, 2)))
	if got := s.Seen(); !slices.Equal(got, events(printed(0, 6), spawned(0, 2), printed(0, 2))) {
		t.Errorf("%v was seen", got)
	}
	isPick(t, "the end", s, 0, 0, result(sched.Stepped, 0, ended(0, api.RunOff)))
	isAt(t, "the end", s, free(1), rows(row(1, 2)))
}

// One that waits, for whatever it is, or is over, runs nowhere, and is nowhere; that was a step.
func TestOneThatIsNotReady(t *testing.T) {
	for name, x := range map[string]struct {
		code []api.Instr
		seen []api.Event
	}{
		"sleeping":  {in(api.Push, 1, api.Sleep, 0), nil},
		"joining":   {in(api.Push, 1, api.Join, 0), nil},
		"locking":   {in(api.Lock, 0, api.Lock, 0), nil},
		"waiting":   {in(api.Lock, 0, api.Wait, 0), nil},
		"downing":   {in(api.Down, 0), nil},
		"sending":   {in(api.Push, 1, api.Send, 0), nil},
		"receiving": {in(api.Recv, 0), nil},
		"selecting": {in(api.Select, 0), nil},
		"fine":      {in(api.Exit, 0), events(ended(0, api.Fine))},
		"returned":  {in(api.Ret, 0), events(ended(0, api.Fine))},
		"under":     {in(api.Pop, 0), events(ended(0, api.Under))},
		"wrong":     {in(api.Unlock, 0), events(ended(0, api.Wrong))},
		"bad join":  {in(api.Push, 0, api.Join, 0), events(ended(0, api.BadJoin))},
		"run off":   {nil, events(ended(0, api.RunOff))},
	} {
		p := program(t, x.code, in(api.Exit, 0))
		s := sched.From(p, stand(p, 0, 1), 1, 8)
		isClaim(t, name, s, 0, 0, api.OK)
		n := max(len(x.code), 1)
		for range n - 1 {
			isPick(t, name, s, 0, 0, result(sched.Stepped, 0))
			isAt(t, name, s, row(0), rows(row(1)))
		}
		isPick(t, name, s, 0, 0, result(sched.Stepped, 0, x.seen...))
		isAt(t, name, s, free(1), rows(row(1)))
		isMoves(t, name, s, steps(make([]int, n)...))
		isPick(t, name, s, 0, 0, result(sched.Took, 1))
	}
}

// A Yield puts it behind the others in the global queue, even if its worker's deque has room; its worker's next one comes first then.
func TestYield(t *testing.T) {
	p := program(t, in(api.Yield, 0, api.Jump, 0))
	s := sched.From(p, stand(p, 0, 0, 0, 0, 0), 2, 2)
	isAt(t, "at first", s, free(2), rows(row(0, 2), row(1, 3)), 4)
	isPick(t, "its own", s, 0, 0, result(sched.Took, 2))
	isPick(t, "a yield", s, 0, 0, result(sched.Stepped, 2))
	isAt(t, "a yield", s, free(2), rows(row(0), row(1, 3)), 4, 2)
	isMoves(t, "a yield", s, steps(2))
	isPick(t, "its own", s, 0, 0, result(sched.Took, 0))
	isPick(t, "a yield", s, 0, 0, result(sched.Stepped, 0))
	isAt(t, "two yields", s, free(2), rows(nil, row(1, 3)), 4, 2, 0)
	isPick(t, "the first one", s, 0, 1, result(sched.Took, 4))
	isPick(t, "a yield", s, 0, 0, result(sched.Stepped, 4))
	isPick(t, "the next one", s, 0, 1, result(sched.Took, 2))
	isPick(t, "a jump", s, 0, 0, result(sched.Stepped, 2))
	isAt(t, "a jump to a yield", s, row(2, -1), rows(nil, row(1, 3)), 0, 4)
	isPick(t, "a yield", s, 0, 0, result(sched.Stepped, 2))
	isAt(t, "a yield again", s, free(2), rows(nil, row(1, 3)), 0, 4, 2)
}

// It is the last frame's place that tells what was done, ahead of it.
func TestYieldInFunctions(t *testing.T) {
	p := program(t, in(api.Call, 1, api.Yield, 0, api.Push, 1), in(api.Yield, 0, api.Ret, 0))
	s := sched.New(p, 1, 1)
	isPick(t, "it", s, 0, 0, result(sched.Took, 0))
	isPick(t, "a call of one that begins with a yield", s, 0, 0, result(sched.Stepped, 0))
	isAt(t, "a call", s, row(0), rows(nil))
	isPick(t, "a yield of the inner one", s, 0, 0, result(sched.Stepped, 0))
	isAt(t, "a yield of the inner one", s, free(1), rows(nil), 0)
	isPick(t, "it", s, 0, 0, result(sched.Took, 0))
	isPick(t, "a return to a yield", s, 0, 0, result(sched.Stepped, 0))
	isAt(t, "a return", s, row(0), rows(nil))
	isPick(t, "a yield of the outer one", s, 0, 0, result(sched.Stepped, 0))
	isAt(t, "a yield of the outer one", s, free(1), rows(nil), 0)
	isPick(t, "it", s, 0, 0, result(sched.Took, 0))
	isPick(t, "what is behind it", s, 0, 0, result(sched.Stepped, 0))
	isAt(t, "what is behind it", s, row(0), rows(nil))
	isPick(t, "the end", s, 0, 0, result(sched.Stepped, 0, ended(0, api.RunOff)))
}

// A Yield at the end of a function is one like any other: that the function ends is seen by the next step.
func TestYieldAtTheEnd(t *testing.T) {
	p := program(t, in(api.Yield, 0))
	s := sched.New(p, 1, 1)
	isPick(t, "it", s, 0, 0, result(sched.Took, 0))
	isPick(t, "a yield", s, 0, 0, result(sched.Stepped, 0))
	isAt(t, "a yield", s, free(1), rows(nil), 0)
	isPick(t, "it", s, 0, 0, result(sched.Took, 0))
	isPick(t, "the end", s, 0, 0, result(sched.Stepped, 0, ended(0, api.RunOff)))
	isAt(t, "the end", s, free(1), rows(nil))
}

// Those that are Ready by a step are given to the worker that let it step, whatever their numbers are; without room they are put into the global queue.
func TestWhoIsReadyByAStep(t *testing.T) {
	spawner := in(api.Spawn, 1, api.Spawn, 1, api.Spawn, 1)
	p := program(t, spawner, in(api.Yield, 0))
	s := sched.From(p, stand(p, 1, 1, 0), 3, 2)
	isPick(t, "it", s, 2, 0, result(sched.Took, 2))
	isPick(t, "a spawn", s, 2, 0, result(sched.Stepped, 2, spawned(2, 3)))
	isAt(t, "a spawn", s, row(-1, -1, 2), rows(row(0), row(1), row(3)))
	isPick(t, "a spawn", s, 2, 0, result(sched.Stepped, 2, spawned(2, 4)))
	isPick(t, "a spawn without room", s, 2, 0, result(sched.Stepped, 2, spawned(2, 5)))
	isAt(t, "spawns", s, row(-1, -1, 2), rows(row(0), row(1), row(3, 4)), 5)
	isPick(t, "the end", s, 2, 0, result(sched.Stepped, 2, ended(2, api.RunOff)))
	isPick(t, "the last one of its own", s, 2, 0, result(sched.Took, 4))
}

// Several that are Ready by one step are given in their row: here those that joined, as their numbers rise.
func TestWhoIsReadyByAnEnd(t *testing.T) {
	p := program(t, in(api.Push, 0, api.Join, 0), in(api.Exit, 0))
	c := stand(p, 1, 0, 0, 0, 0)
	for _, n := range []int{4, 4, 2, 2, 3, 3, 1, 1} {
		c, _, _, _ = core.Step(p, c, n)
	}
	for _, x := range []struct {
		room   int
		own    []int
		global []int
	}{{8, row(1, 2, 3, 4), nil}, {4, row(1, 2, 3, 4), nil}, {3, row(1, 2, 3), row(4)}, {1, row(1), row(2, 3, 4)}} {
		s := sched.From(p, c, 2, x.room)
		isAt(t, "at first", s, free(2), rows(row(0), nil))
		isPick(t, "it", s, 1, 0, result(sched.Stole, 0))
		isPick(t, "the end", s, 1, 0, result(sched.Stepped, 0, ended(0, api.Fine)))
		isAt(t, "the end", s, free(2), rows(nil, x.own), x.global...)
	}
}

// Others that wait for what a step gives, or hands on, are given to the worker, too, and run nowhere as yet.
func TestWhoIsReadyByWhatAnotherOneDoes(t *testing.T) {
	for name, x := range map[string]struct{ first, then []api.Instr }{
		"an unlock":   {in(api.Lock, 0), in(api.Unlock, 0)},
		"an up":       {in(api.Down, 0), in(api.Up, 0)},
		"a send":      {in(api.Recv, 0), in(api.Send, 0)},
		"a choice":    {in(api.Select, 0), in(api.Send, 1)},
		"a receiving": {in(api.Send, 0), in(api.Recv, 0)},
	} {
		p := program(t, x.first, x.then)
		c := stand(p, 1, 1, 0)
		c.Threads[1].Stack, c.Threads[2].Stack = row(7), row(7)
		if name == "an unlock" {
			c.Owners[0] = 1
		}
		s := sched.From(p, c, 3, 1)
		isPick(t, name, s, 2, 0, result(sched.Took, 2))
		isPick(t, name, s, 2, 0, result(sched.Stepped, 2))
		isAt(t, name, s, free(3), rows(row(0), row(1), nil))
		isPick(t, name, s, 1, 0, result(sched.Took, 1))
		isPick(t, name, s, 1, 0, result(sched.Stepped, 1))
		isAt(t, name, s, row(-1, 1, -1), rows(row(0), row(2), nil))
		isMoves(t, name, s, steps(2, 1))
	}
}

// One spawns another one, and is over by that, as it has no room for its number: the other one is given all the same.
func TestOneThatIsOverByASpawn(t *testing.T) {
	p := program(t, in(api.Spawn, 1), in(api.Exit, 0))
	c := core.New(p)
	c.Threads[0].Stack = make([]int, api.MaxStack)
	s := sched.From(p, c, 2, 1)
	isPick(t, "it", s, 0, 0, result(sched.Took, 0))
	isPick(t, "a spawn", s, 0, 0, result(sched.Stepped, 0, spawned(0, 1), ended(0, api.Over)))
	isAt(t, "a spawn", s, free(2), rows(row(1), nil))
}
