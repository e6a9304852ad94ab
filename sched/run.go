package sched

import (
	"slices"

	"hibernacle/api"
	"hibernacle/code"
	"hibernacle/core"
	"hibernacle/follow"
)

// run is what runs: a program, the state that it came to, by which moves, and what was seen of them.
type run struct {
	program api.Program
	state   api.Core
	moves   []follow.Move
	seen    []api.Event
}

// Core is the state.
func (r *run) Core() api.Core {
	return core.Clone(r.state)
}

// Moves is what went so far.
func (r *run) Moves() []follow.Move {
	return slices.Clone(r.moves)
}

// Seen is what was seen so far.
func (r *run) Seen() []api.Event {
	return slices.Clone(r.seen)
}

// move lets a thread step: what was seen, and who is Ready by that. With an error it is no move.
func (r *run) move(t int) ([]api.Event, []int, api.Errno) {
	next, seen, woken, e := core.Step(r.program, r.state, t)
	if e != api.OK {
		return nil, nil, e
	}
	r.state = next
	r.moves = append(r.moves, follow.Move{Kind: follow.Step, N: t})
	r.seen = append(r.seen, seen...)
	return seen, woken, api.OK
}

// pass lets ticks go by: who is woken. Less than one is no move.
func (r *run) pass(n int) []int {
	if n < 1 {
		return nil
	}
	next, woken := core.Tick(r.state, n)
	r.state = next
	r.moves = append(r.moves, follow.Move{Kind: follow.Tick, N: n})
	return woken
}

// ready tells whether a thread may step.
func (r *run) ready(t int) bool {
	return r.has(t) && r.state.Threads[t].State == api.Ready
}

// yields tells whether a Yield is what a thread does next. It is asked ahead of the step, as a thread's place does not tell behind it how it came there.
func (r *run) yields(t int) bool {
	if !r.has(t) || len(r.state.Threads[t].Frames) == 0 {
		return false
	}
	frames := r.state.Threads[t].Frames
	last := frames[len(frames)-1]
	i, _ := code.At(r.program, last.Func, last.Pc)
	return i.Op == api.Yield
}

// has tells whether there is such a thread.
func (r *run) has(t int) bool {
	return t >= 0 && t < len(r.state.Threads)
}
