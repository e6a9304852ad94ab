package follow_test

import (
	"math"
	"math/rand"
	"slices"
	"testing"

	"hibernacle/api"
	"hibernacle/code"
	"hibernacle/core"
	"hibernacle/follow"
)

// most is the greatest number that is kept.
const most = 1 << 30

// mark stands in all spare room, where nothing that the package does may reach.
const mark = -987654321

// far is numbers that lie far out.
var far = []int{math.MinInt, math.MinInt + 1, -1 << 32, -1 << 31, -most - 1, -most, -3, -2, -1, most, most + 1, 1 << 31, 1 << 32, math.MaxInt - 1, math.MaxInt}

// in is code of pairs: an Op, its A.
func in(l ...int) []api.Instr {
	var code []api.Instr
	for i := 0; i < len(l); i += 2 {
		code = append(code, api.Instr{Op: l[i], A: l[i+1]})
	}
	return code
}

// program is one of a function for each code, with a local each, and a few things of each kind.
func program(t *testing.T, codes ...[]api.Instr) api.Program {
	t.Helper()
	p := api.Program{Mutexes: 1, Conds: []int{0}, Semas: []int{0, 2}, Chans: []int{0, 1}, Choices: [][]int{{1, 0}}, Threads: 4}
	for _, c := range codes {
		p.Funcs = append(p.Funcs, api.Func{Locals: 1, Code: c})
	}
	if !code.May(p) {
		t.Fatalf("what this test leans on is no program: %v", p)
	}
	return p
}

func printed(t, n int) api.Event { return api.Event{Kind: api.Printed, Thread: t, N: n} }
func spawned(t, n int) api.Event { return api.Event{Kind: api.Spawned, Thread: t, N: n} }
func ended(t, n int) api.Event   { return api.Event{Kind: api.Ended, Thread: t, N: n} }

// events is some of them.
func events(l ...api.Event) []api.Event { return l }

// steps is a step of each of these threads, in this row.
func steps(l ...int) []follow.Move {
	var moves []follow.Move
	for _, n := range l {
		moves = append(moves, follow.Move{Kind: follow.Step, N: n})
	}
	return moves
}

// ticks is a move of n ticks.
func ticks(n int) []follow.Move {
	return []follow.Move{{Kind: follow.Tick, N: n}}
}

// moves is some of them, one behind the other.
func moves(l ...[]follow.Move) []follow.Move {
	return slices.Concat(l...)
}

// told is the first n moves, told by chapter 11 alone: the state behind them, and what was seen. All of them go.
func told(t *testing.T, p api.Program, c api.Core, l []follow.Move, n int) (api.Core, []api.Event) {
	t.Helper()
	var seen []api.Event
	for _, m := range l[:n] {
		if m.Kind == follow.Tick {
			c, _ = core.Tick(c, m.N)
			continue
		}
		next, more, _, e := core.Step(p, c, m.N)
		if e != api.OK {
			t.Fatalf("what this test leans on is no run: %v: %v", m, e)
		}
		c, seen = next, append(seen, more...)
	}
	return c, seen
}

// run asks Run, that nothing that is handed in is changed, that what is answered shares nothing with it, and that it is the same twice.
func run(t *testing.T, name string, p api.Program, c api.Core, l []follow.Move) (api.Core, []api.Event, int, api.Errno) {
	t.Helper()
	prog, given, list := code.Clone(p), roomyCore(c), roomy(l, follow.Move{Kind: mark})
	out, seen, n, e := follow.Run(prog, given, list)
	again, seenAgain, m, f := follow.Run(prog, given, list)
	if !core.Same(out, again) || !slices.Equal(seen, seenAgain) || n != m || e != f {
		t.Errorf("%s: it is not the same twice", name)
	}
	want, seenWant := core.Clone(out), slices.Clone(seen)
	scratch(again)
	over(seenAgain, api.Event{Kind: mark})
	if !core.Same(out, want) || !slices.Equal(seen, seenWant) {
		t.Errorf("%s: two answers share memory", name)
	}
	scratch(out)
	over(seen, api.Event{Kind: mark})
	if !core.Same(given, c) || !isMarked(given) {
		t.Errorf("%s: the state that was handed in is changed, or answered", name)
	}
	if !code.Same(prog, p) || !slices.Equal(list, l) || slices.ContainsFunc(spare(list), func(m follow.Move) bool { return m.Kind != mark }) {
		t.Errorf("%s: the program, or the moves, are changed", name)
	}
	return want, seenWant, n, e
}

// spare is the room behind l.
func spare[T any](l []T) []T {
	return l[len(l):cap(l)]
}

// roomy is a list in other memory, with room behind it, in which v stands.
func roomy[T any](l []T, v T) []T {
	m := append(make([]T, 0, len(l)+4), l...)
	over(spare(m), v)
	return m
}

// over writes v over all of a list, spare room too.
func over[T any](l []T, v T) {
	l = l[:cap(l)]
	for i := range l {
		l[i] = v
	}
}

// listsOf is each list of numbers of a state.
func listsOf(c *api.Core) []*[]int {
	l := []*[]int{&c.Owners, &c.Counts}
	for _, rows := range [][][]int{c.Bufs, c.LockQ, c.WaitQ, c.DownQ, c.SendQ, c.RecvQ} {
		for i := range rows {
			l = append(l, &rows[i])
		}
	}
	for i := range c.Threads {
		l = append(l, &c.Threads[i].Stack)
		for j := range c.Threads[i].Frames {
			l = append(l, &c.Threads[i].Frames[j].Locals)
		}
	}
	return l
}

// roomyCore is c in other memory, each list of numbers with marked room behind it.
func roomyCore(c api.Core) api.Core {
	c = core.Clone(c)
	for _, l := range listsOf(&c) {
		*l = roomy(*l, mark)
	}
	return c
}

// isMarked tells whether all room of a roomy state is as it was.
func isMarked(c api.Core) bool {
	return !slices.ContainsFunc(listsOf(&c), func(l *[]int) bool {
		return len(spare(*l)) != 4 || slices.ContainsFunc(spare(*l), func(n int) bool { return n != mark })
	})
}

// scratch writes over all that is to be reached of a state, the innermost first.
func scratch(c api.Core) {
	for _, l := range listsOf(&c) {
		over(*l, -77)
	}
	for _, rows := range [][][]int{c.Bufs, c.LockQ, c.WaitQ, c.DownQ, c.SendQ, c.RecvQ} {
		over(rows, []int{-78})
	}
	for _, x := range c.Threads {
		over(x.Frames, api.Frame{Func: -79})
	}
	over(c.Threads, api.Thread{State: -80})
}

// anyProgram is one that may be, of pieces that ask for things; few things, so that threads meet.
func anyProgram(t *testing.T, r *rand.Rand) api.Program {
	t.Helper()
	p := program(t, slices.Concat(in(api.Spawn, 1, api.Pop, 0, api.Spawn, 2, api.Pop, 0), anyCode(r, 4)), anyCode(r, 0), anyCode(r, 0))
	p.Threads = 1 + r.Intn(6)
	return p
}

// anyCode is a function's: most often it goes round and round, from a place on.
func anyCode(r *rand.Rand, from int) []api.Instr {
	var l []api.Instr
	for range 1 + r.Intn(6) {
		l = append(l, anyPiece(r)...)
	}
	again := in(api.Jump, from)
	return append(l, oneOf(r, again, again, again, again, in(api.Ret, 0), nil)...)
}

// anyPiece is a few instructions that ask for a thing, or for nothing.
func anyPiece(r *rand.Rand) []api.Instr {
	n := r.Intn(50)
	show, sleep := in(api.Push, n, api.Print, 0), in(api.Push, 1+n%5, api.Sleep, 0)
	if r.Intn(20) == 0 {
		return oneOf(r, in(api.Pop, 0), in(api.Exit, 0), in(api.Unlock, 0), in(api.Push, 9, api.Join, 0))
	}
	return oneOf(r,
		show, show, show, show, sleep, sleep, sleep, in(api.Push, n, api.Set, 0, api.Get, 0, api.Print, 0), in(api.Yield, 0),
		in(api.Spawn, n%3, api.Print, 0), in(api.Spawn, 1, api.Join, 0, api.Print, 0),
		in(api.Lock, 0, api.Yield, 0, api.Unlock, 0), in(api.Lock, 0, api.Wait, 0, api.Unlock, 0), in(api.Signal, 0), in(api.Broadcast, 0),
		in(api.Down, n%2), in(api.Up, n%2), in(api.Push, n, api.Send, n%2), in(api.Recv, n%2, api.Print, 0), in(api.Select, 0, api.Print, 0, api.Print, 0),
	)
}

// oneOf is one of some.
func oneOf(r *rand.Rand, l ...[]api.Instr) []api.Instr {
	return l[r.Intn(len(l))]
}
