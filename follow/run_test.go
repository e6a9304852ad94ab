package follow_test

import (
	"slices"
	"strconv"
	"testing"

	"hibernacle/api"
	"hibernacle/core"
	"hibernacle/follow"
)

// P12.1: Run

// example is the chapter's one, and what is seen of it.
func example(t *testing.T) (api.Program, []api.Event) {
	t.Helper()
	return program(t, in(api.Push, 5, api.Print, 0, api.Exit, 0)), events(printed(0, 5), ended(0, 0))
}

// sleeper is a program whose thread prints 7, sleeps till the tick 3, and prints 8.
func sleeper(t *testing.T) api.Program {
	t.Helper()
	return program(t, in(api.Push, 7, api.Print, 0, api.Push, 3, api.Sleep, 0, api.Push, 8, api.Print, 0))
}

// parent is a program whose thread 0 spawns 1, joins it, and prints how it ended, which is Under.
func parent(t *testing.T) api.Program {
	t.Helper()
	return program(t, in(api.Spawn, 1, api.Join, 0, api.Print, 0, api.Exit, 0), in(api.Push, 4, api.Print, 0, api.Pop, 0))
}

// isRun asks that of the moves l just n go, from c on, that the next one is the error e, and that this was seen.
func isRun(t *testing.T, name string, p api.Program, c api.Core, l []follow.Move, n int, e api.Errno, seen ...api.Event) {
	t.Helper()
	out, trace, went, f := run(t, name, p, c, l)
	if went != n || f != e {
		t.Errorf("%s: %d moves went, error %d, not %d, %d", name, went, f, n, e)
	}
	if !slices.Equal(trace, seen) {
		t.Errorf("%s: %v was seen, not %v", name, trace, seen)
	}
	if want, _ := told(t, p, c, l, n); !core.Same(out, want) {
		t.Errorf("%s: the state is %v, not %v", name, out, want)
	}
}

func TestRunOfTheExample(t *testing.T) {
	p, seen := example(t)
	isRun(t, "the example", p, core.New(p), steps(0, 0, 0), 3, api.OK, seen...)
	c, trace, n, e := follow.Run(p, core.New(p), steps(0, 0, 0))
	if !core.Over(c) || !slices.Equal(trace, []api.Event{{Kind: 0, Thread: 0, N: 5}, {Kind: 2, Thread: 0, N: 0}}) || n != 3 || e != 0 {
		t.Errorf("the example: %v, %v, %d, %d", c, trace, n, e)
	}
}

func TestRun(t *testing.T) {
	p := parent(t)
	c := core.New(p)
	isRun(t, "no moves", p, c, nil, 0, api.OK)
	isRun(t, "an empty list", p, c, []follow.Move{}, 0, api.OK)
	isRun(t, "a move that shows nothing", p, c, ticks(1), 1, api.OK)
	isRun(t, "a move", p, c, steps(0), 1, api.OK, spawned(0, 1))
	isRun(t, "two threads in turn", p, c, steps(0, 1, 0, 1, 1, 0, 0), 7, api.OK, spawned(0, 1), printed(1, 4), ended(1, api.Under), printed(0, api.Under), ended(0, api.Fine))
	isRun(t, "one behind the other", p, c, steps(0, 1, 1, 1, 0, 0, 0), 7, api.OK, spawned(0, 1), printed(1, 4), ended(1, api.Under), printed(0, api.Under), ended(0, api.Fine))

	p = sleeper(t)
	isRun(t, "one that sleeps", p, core.New(p), moves(steps(0, 0, 0, 0), ticks(3), steps(0, 0, 0)), 8, api.OK, printed(0, 7), printed(0, 8), ended(0, api.RunOff))
	isRun(t, "tick by tick", p, core.New(p), moves(steps(0, 0, 0, 0), ticks(1), ticks(1), ticks(1), steps(0)), 8, api.OK, printed(0, 7))
	isRun(t, "ticks go by when all are over", p, core.New(p), moves(steps(0, 0, 0, 0), ticks(3), steps(0, 0, 0), ticks(9)), 9, api.OK, printed(0, 7), printed(0, 8), ended(0, api.RunOff))
}

// What is seen of one move stands in its row, too: here the end of one, then that of the one that joined it, which has no room for the code.
func TestRunOfAMoveOfWhichMuchIsSeen(t *testing.T) {
	p := program(t, in(api.Spawn, 1, api.Join, 0, api.Exit, 0), in(api.Exit, 0))
	c, _ := told(t, p, core.New(p), steps(0, 0), 2)
	isRun(t, "a join with room", p, c, steps(1, 0), 2, api.OK, ended(1, api.Fine), ended(0, api.Fine))
	c.Threads[0].Stack = make([]int, api.MaxStack)
	isRun(t, "a join without room", p, c, steps(1), 1, api.OK, ended(1, api.Fine), ended(0, api.Over))
	isRun(t, "a step of one that is over by that", p, c, steps(1, 0), 1, api.ErrState, ended(1, api.Fine), ended(0, api.Over))
}

// A run may begin at any state of its program, not at New's alone: nothing of what was ahead is seen.
func TestRunFromAState(t *testing.T) {
	p := parent(t)
	l := steps(0, 1, 0, 1, 1, 0, 0)
	seen := []int{0, 1, 1, 1, 2, 3, 4, 5}
	for i := range len(l) + 1 {
		c, _ := told(t, p, core.New(p), l, i)
		_, all := told(t, p, core.New(p), l, len(l))
		isRun(t, "from the move "+strconv.Itoa(i), p, c, l[i:], len(l)-i, api.OK, all[seen[i]:]...)
		isRun(t, "none from the move "+strconv.Itoa(i), p, c, nil, 0, api.OK)
	}
}

// A Tick always goes, however many ticks it is: below 1 none go by.
func TestRunOfTicks(t *testing.T) {
	p := sleeper(t)
	c, _ := told(t, p, core.New(p), moves(ticks(100), steps(0, 0, 0, 0)), 5)
	for _, n := range append([]int{0, 1, 2, 3, 4}, far...) {
		isRun(t, "ticks", p, c, ticks(n), 1, api.OK)
		out, _, _, _ := follow.Run(p, c, ticks(n))
		now := 100
		if n > 0 {
			now = min(100+min(n, most), most)
		}
		if out.Now != now || (out.Threads[0].State == api.Ready) != (now >= 103) {
			t.Errorf("%d ticks: %v", n, out)
		}
		if now >= 103 {
			isRun(t, "ticks, then a step", p, c, moves(ticks(n), steps(0, 0)), 3, api.OK, printed(0, 8))
		} else {
			isRun(t, "ticks, then a step", p, c, moves(ticks(n), steps(0, 0)), 1, api.ErrState)
		}
	}
}

// A move that does not go ends the run, wherever it stands: what was ahead holds, and what is behind is not played, though it would go.
func TestRunEndsAtAMoveThatDoesNotGo(t *testing.T) {
	p, all := example(t)
	seen := []int{0, 0, 1, 2}
	for at := range 4 {
		for _, x := range []struct {
			name string
			move follow.Move
			e    api.Errno
		}{
			{"no such thread", follow.Move{Kind: follow.Step, N: 1}, api.ErrArg},
			{"a thread below 0", follow.Move{Kind: follow.Step, N: -1}, api.ErrArg},
			{"a kind that is none", follow.Move{Kind: 2}, api.ErrArg},
			{"a kind below 0", follow.Move{Kind: -1}, api.ErrArg},
		} {
			for _, behind := range [][]follow.Move{nil, steps(0, 0, 0), steps(0), ticks(5), {{Kind: 3}}} {
				l := moves(steps(0, 0, 0)[:at], []follow.Move{x.move}, behind)
				isRun(t, x.name+" at "+strconv.Itoa(at), p, core.New(p), l, at, x.e, all[:seen[at]]...)
			}
		}
	}
	isRun(t, "one that is over", p, core.New(p), steps(0, 0, 0, 0, 1), 3, api.ErrState, all...)
	isRun(t, "one that is over, behind ticks", p, core.New(p), moves(steps(0, 0, 0), ticks(1), steps(0), ticks(1)), 4, api.ErrState, all...)
	p = parent(t)
	isRun(t, "a thread that is not there yet", p, core.New(p), steps(1, 0, 1), 0, api.ErrArg)
	isRun(t, "one that joins another one", p, core.New(p), steps(0, 0, 0, 1), 2, api.ErrState, spawned(0, 1))
}

func TestRunOfNoMove(t *testing.T) {
	p, _ := example(t)
	for _, kind := range append([]int{2, 3, 4}, far...) {
		for _, n := range append([]int{0, 1}, far...) {
			bad := follow.Move{Kind: kind, N: n}
			isRun(t, "a kind that is none", p, core.New(p), []follow.Move{bad}, 0, api.ErrArg)
			isRun(t, "a kind that is none, behind others", p, core.New(p), append(steps(0, 0), bad), 2, api.ErrArg, printed(0, 5))
		}
	}
	for _, n := range append([]int{1, 2, 31, 32}, far...) {
		isRun(t, "no thread", p, core.New(p), steps(n), 0, api.ErrArg)
		isRun(t, "no thread, behind others", p, core.New(p), steps(0, 0, n), 2, api.ErrArg, printed(0, 5))
	}
}

// Of each thread that waits a step does not go, whatever it waits for.
func TestRunOfOnesThatWait(t *testing.T) {
	for state, code := range map[int][]api.Instr{
		api.Sleeping: in(api.Push, 1, api.Sleep, 0), api.Joining: in(api.Spawn, 0, api.Join, 0), api.Locking: in(api.Lock, 0, api.Lock, 0),
		api.Waiting: in(api.Lock, 0, api.Wait, 0), api.Downing: in(api.Yield, 0, api.Down, 0), api.Sending: in(api.Push, 1, api.Send, 0),
		api.Receiving: in(api.Yield, 0, api.Recv, 0), api.Selecting: in(api.Yield, 0, api.Select, 0), api.Dead: in(api.Yield, 0, api.Exit, 0),
	} {
		p := program(t, code)
		c, seen := told(t, p, core.New(p), steps(0, 0), 2)
		if c.Threads[0].State != state {
			t.Fatalf("what this test leans on is in the state %d, not %d", c.Threads[0].State, state)
		}
		isRun(t, "the state "+strconv.Itoa(state), p, core.New(p), steps(0, 0, 0), 2, api.ErrState, seen...)
		isRun(t, "from the state "+strconv.Itoa(state), p, c, steps(0), 0, api.ErrState)
	}
}

func TestMoves(t *testing.T) {
	if follow.Step != 0 || follow.Tick != 1 {
		t.Errorf("Step is %d, Tick %d", follow.Step, follow.Tick)
	}
	// The zero move is a step of the thread 0.
	p, _ := example(t)
	isRun(t, "the zero move", p, core.New(p), make([]follow.Move, 2), 2, api.OK, printed(0, 5))
}
