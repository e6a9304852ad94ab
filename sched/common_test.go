package sched_test

import (
	"math"
	"math/rand"
	"slices"
	"testing"

	"hibernacle/api"
	"hibernacle/code"
	"hibernacle/core"
	"hibernacle/follow"
	"hibernacle/sched"
	"hibernacle/stack"
)

// most is the greatest number that is kept.
const most = 1 << 30

// mark stands in all spare room, where nothing that the package does may reach.
const mark = -987654321

// far is numbers that lie far out.
var far = []int{math.MinInt, math.MinInt + 1, -1 << 61, -1 << 32, -1 << 31, -most, -65, most, 1 << 31, 1 << 32, 1<<32 + 1, 1 << 61, math.MaxInt - 1, math.MaxInt}

// in is code of pairs: an Op, its A.
func in(l ...int) []api.Instr {
	var code []api.Instr
	for i := 0; i < len(l); i += 2 {
		code = append(code, api.Instr{Op: l[i], A: l[i+1]})
	}
	return code
}

// program is one of a function for each code, with a local each, and a few things of each kind.
func program(t *testing.T, codes ...[]api.Instr) api.Program {
	t.Helper()
	p := api.Program{Mutexes: 1, Conds: []int{0}, Semas: []int{0, 2}, Chans: []int{0, 1}, Choices: [][]int{{1, 0}}, Threads: api.MaxThreads}
	for _, c := range codes {
		p.Funcs = append(p.Funcs, api.Func{Locals: 1, Code: c})
	}
	if !code.May(p) {
		t.Fatalf("what this test leans on is no program: %v", p)
	}
	return p
}

// stand is a state of p with a thread of each of these functions, at its beginning: 0, 1 and so on.
func stand(p api.Program, funcs ...int) api.Core {
	c := core.New(p)
	c.Threads = nil
	for _, f := range funcs {
		c.Threads = append(c.Threads, stack.New(p, f))
	}
	return c
}

// crowd is a state of n threads, each of which prints 1 on and on; only these are Ready, the others sleep for a long time.
func crowd(t *testing.T, n int, ready ...int) (api.Program, api.Core) {
	t.Helper()
	p := program(t, in(api.Push, 1, api.Print, 0, api.Jump, 0))
	c := stand(p, make([]int, n)...)
	for i := range c.Threads {
		if !slices.Contains(ready, i) {
			c.Threads[i].State, c.Threads[i].On = api.Sleeping, most
		}
	}
	return p, c
}

// sleepers is a crowd all of which sleep, each till its tick.
func sleepers(t *testing.T, ticks ...int) (api.Program, api.Core) {
	t.Helper()
	p, c := crowd(t, len(ticks))
	for i, tick := range ticks {
		c.Threads[i].On = tick
	}
	return p, c
}

func printed(t, n int) api.Event { return api.Event{Kind: api.Printed, Thread: t, N: n} }
func spawned(t, n int) api.Event { return api.Event{Kind: api.Spawned, Thread: t, N: n} }
func ended(t, n int) api.Event   { return api.Event{Kind: api.Ended, Thread: t, N: n} }

// events is some of them.
func events(l ...api.Event) []api.Event { return l }

// steps is a step of each of these threads, in this row.
func steps(l ...int) []follow.Move {
	var moves []follow.Move
	for _, n := range l {
		moves = append(moves, follow.Move{Kind: follow.Step, N: n})
	}
	return moves
}

// ticks is a move of n ticks.
func ticks(n int) []follow.Move {
	return []follow.Move{{Kind: follow.Tick, N: n}}
}

// result is one of a kind, a thread and what was seen.
func result(kind, t int, seen ...api.Event) sched.Result {
	return sched.Result{Kind: kind, Thread: t, Seen: seen}
}

// sameResult tells whether two of them are one.
func sameResult(a, b sched.Result) bool {
	return a.Kind == b.Kind && a.Thread == b.Thread && slices.Equal(a.Seen, b.Seen)
}

// isPick asks that a pick of w with n goes, and what happens by it.
func isPick(t *testing.T, name string, s *sched.Sched, w, n int, want sched.Result) {
	t.Helper()
	if got, e := s.Pick(w, n); e != api.OK || !sameResult(got, want) {
		t.Errorf("%s: Pick(%d, %d): %v, error %d, not %v", name, w, n, got, e, want)
	}
}

// isTick asks that n ticks wake just these.
func isTick(t *testing.T, name string, s *sched.Sched, n int, want ...int) {
	t.Helper()
	if got := s.Tick(n); !slices.Equal(got, want) {
		t.Errorf("%s: Tick(%d): %v, not %v", name, n, got, want)
	}
}

// isPark asks what is told of a parking.
func isPark(t *testing.T, name string, s *sched.Sched, w, want int, wantErr api.Errno) {
	t.Helper()
	if got, e := s.Park(w); got != want || e != wantErr {
		t.Errorf("%s: Park(%d): %d, error %d, not %d, %d", name, w, got, e, want, wantErr)
	}
}

// isClaim asks what is told of a claim.
func isClaim(t *testing.T, name string, s *sched.Sched, w, n int, want api.Errno) {
	t.Helper()
	if e := s.Claim(w, n); e != want {
		t.Errorf("%s: Claim(%d, %d): error %d, not %d", name, w, n, e, want)
	}
}

// isMoves asks which moves went so far.
func isMoves(t *testing.T, name string, s *sched.Sched, want ...[]follow.Move) {
	t.Helper()
	if got := s.Moves(); !slices.Equal(got, slices.Concat(want...)) {
		t.Errorf("%s: the moves are %v, not %v", name, got, want)
	}
}

// isAt asks by each call that looks at workers, and changes none, what runs at each of them (-1: none), what its deque has, and what the global queue.
func isAt(t *testing.T, name string, s *sched.Sched, running []int, own [][]int, global ...int) {
	t.Helper()
	if s.Workers() != len(running) || s.Pool().Workers() != len(running) {
		t.Fatalf("%s: Workers %d, of the pool %d, not %d", name, s.Workers(), s.Pool().Workers(), len(running))
	}
	var places [][]int
	for w, n := range running {
		if got := s.Running(w); got != n {
			t.Errorf("%s: at %d runs %d, not %d", name, w, got, n)
		}
		if got := s.Pool().Own(w); !slices.Equal(got, own[w]) {
			t.Errorf("%s: %d has %v, not %v", name, w, got, own[w])
		}
		place := slices.Clone(own[w])
		if n != -1 {
			place = append(place, n)
		}
		places = append(places, place)
	}
	if got := s.Pool().Global(); !slices.Equal(got, global) {
		t.Errorf("%s: the global queue has %v, not %v", name, got, global)
	}
	if got := s.Places(); !sameRows(got, append(places, global)) {
		t.Errorf("%s: Places %v, not %v, %v", name, got, places, global)
	}
}

// free is so many workers at which none runs.
func free(workers int) []int {
	return slices.Repeat([]int{-1}, workers)
}

// rows is some of them.
func rows(l ...[]int) [][]int { return l }

// row is some numbers.
func row(l ...int) []int { return l }

// sameRows tells whether two lists of rows are one, where nil and empty ones are one.
func sameRows(a, b [][]int) bool {
	return slices.EqualFunc(a, b, slices.Equal)
}

// outside is numbers that are no worker's of so many.
func outside(workers int) []int {
	return append([]int{-1, -2, -workers, workers, workers + 1, 2 * workers}, far...)
}

// anyProgram is one that may be, of pieces that ask for things; few things, so that threads meet. Of the first one's threads one goes on for ever, and wakes others, so that not all wait soon.
func anyProgram(t *testing.T, r *rand.Rand) api.Program {
	t.Helper()
	goesOn := in(api.Push, 77, api.Print, 0, api.Up, 0, api.Yield, 0, api.Broadcast, 0, api.Up, 1, api.Push, 1, api.Sleep, 0, api.Jump, 0)
	p := program(t, slices.Concat(in(api.Spawn, 3, api.Pop, 0, api.Spawn, 1, api.Pop, 0, api.Spawn, 2, api.Pop, 0), anyCode(r, 4)), anyCode(r, 0), anyCode(r, 0), goesOn)
	p.Threads = 2 + r.Intn(12)
	return p
}

// anyCode is a function's: most often it goes round and round, from a place on.
func anyCode(r *rand.Rand, from int) []api.Instr {
	var l []api.Instr
	for range 1 + r.Intn(6) {
		l = append(l, anyPiece(r)...)
	}
	again := in(api.Jump, from)
	return append(l, oneOf(r, again, again, again, again, in(api.Ret, 0), nil)...)
}

// anyPiece is a few instructions that ask for a thing, or for nothing.
func anyPiece(r *rand.Rand) []api.Instr {
	n := r.Intn(50)
	show, sleep := in(api.Push, n, api.Print, 0), in(api.Push, 1+n%5, api.Sleep, 0)
	if r.Intn(20) == 0 {
		return oneOf(r, in(api.Pop, 0), in(api.Exit, 0), in(api.Unlock, 0), in(api.Push, 9, api.Join, 0))
	}
	return oneOf(r,
		show, show, show, sleep, sleep, in(api.Yield, 0), in(api.Yield, 0), in(api.Call, 2), in(api.Ret, 0),
		in(api.Spawn, n%3, api.Print, 0), in(api.Spawn, 1, api.Pop, 0), in(api.Spawn, 1, api.Join, 0, api.Print, 0),
		in(api.Lock, 0, api.Yield, 0, api.Unlock, 0), in(api.Lock, 0, api.Wait, 0, api.Unlock, 0), in(api.Signal, 0), in(api.Broadcast, 0),
		in(api.Down, n%2), in(api.Up, n%2), in(api.Push, n, api.Send, n%2), in(api.Recv, n%2, api.Print, 0), in(api.Select, 0, api.Print, 0, api.Print, 0),
	)
}

// oneOf is one of some.
func oneOf(r *rand.Rand, l ...[]api.Instr) []api.Instr {
	return l[r.Intn(len(l))]
}
