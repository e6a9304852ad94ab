package core

import (
	"slices"

	"hibernacle/api"
	"hibernacle/stack"
	"hibernacle/vm"
)

// A turn is a state that goes on, in memory of its own: its program, the thread that steps, what was seen, and who came to be Ready, in their row.
type turn struct {
	p    api.Program
	c    api.Core
	t    int
	seen []api.Event
	came []int
}

// step lets the thread do one instruction, and meets what it asks for. There is nothing to be met of a request that is not in the map.
func (u *turn) step() {
	x, r := vm.Step(u.p, u.c.Threads[u.t])
	u.c.Threads[u.t] = x
	if meet, ok := meets()[r.Kind]; ok {
		meet(u, r)
	}
}

// has tells whether there is such a thread.
func (u *turn) has(t int) bool {
	return t >= 0 && t < len(u.c.Threads)
}

// see tells what is seen from outside.
func (u *turn) see(kind, t, n int) {
	u.seen = append(u.seen, api.Event{Kind: kind, Thread: t, N: n})
}

// put gives a thread a state, and for what it waits. The layers below tell of -1 where there is no thread: nothing is done then, and it is false.
func (u *turn) put(t, state, on int) bool {
	if !u.has(t) {
		return false
	}
	u.c.Threads[t].State, u.c.Threads[t].On = state, on
	return true
}

// pause lets the thread that steps wait.
func (u *turn) pause(state, on int) {
	u.put(u.t, state, on)
}

// wake lets a thread go on, if there is one.
func (u *turn) wake(t int) {
	if u.put(t, api.Ready, 0) {
		u.came = append(u.came, t)
	}
}

// awake is who came to be Ready, and is so still: one that had no room for what it was told is over by now.
func (u *turn) awake() []int {
	ready := Ready(u.c)
	return slices.DeleteFunc(u.came, func(t int) bool { return !slices.Contains(ready, t) })
}

// tell hands numbers to a thread, which is over if it has no room for them.
func (u *turn) tell(t int, l ...int) {
	x, ok := vm.Tell(u.c.Threads[t], l...)
	if !ok {
		u.over(t, x.Code)
		return
	}
	u.c.Threads[t] = x
}

// over ends a thread. One that joined it may be over by that, too: it, and who joined it, come ahead of the next one.
func (u *turn) over(t, code int) {
	u.c.Threads[t] = stack.End(u.c.Threads[t], code)
	u.see(api.Ended, t, code)
	for _, joined := range who(u.c, func(x api.Thread) bool { return x.State == api.Joining && x.On == t }) {
		u.wake(joined)
		u.tell(joined, code)
	}
}
