package vm

import (
	"hibernacle/api"
	"hibernacle/stack"
)

// A turn is a thread that steps: its program, the A of the instruction that is under way, and what is asked for.
type turn struct {
	p api.Program
	t api.Thread
	a int
	r Request
}

// begin is a turn of t. What chapter 4's calls answer shares memory with what they are handed: one copy ahead of all steps is enough for the answer to be new.
func begin(p api.Program, t api.Thread) *turn {
	return &turn{p: p, t: stack.Clone(t)}
}

// step does the instruction at the thread's place; behind the function's end the thread ends.
func (u *turn) step(does map[int]deed) {
	i, ok := stack.Fetch(u.p, u.t)
	if !ok {
		u.end(api.RunOff)
		return
	}
	u.a = i.A
	u.pass()
	// There is a deed of each instruction that a program may have; one that it may not have makes nothing fail.
	if do, ok := does[i.Op]; ok {
		do(u)
	}
}

// pass goes on to the next place. It comes ahead of the deed, so that a jump lays the place elsewhere, and a call leaves it behind as it is found at the return.
func (u *turn) pass() {
	f := u.t.Frames[len(u.t.Frames)-1]
	u.t = stack.Jump(u.t, f.Pc+1)
}

// end ends the thread.
func (u *turn) end(code int) {
	u.t = stack.End(u.t, code)
	u.r = Request{Kind: End, V: code}
}

// goOn is the thread as t, if what was asked of it could be; else it ends.
func (u *turn) goOn(t api.Thread, could bool, code int) {
	if !could {
		u.end(code)
		return
	}
	u.t = t
}

// pop takes the uppermost number, with which then is done; without one the thread ends.
func (u *turn) pop(then func(v int)) {
	t, v, ok := stack.Pop(u.t)
	u.goOn(t, ok, api.Under)
	if ok {
		then(v)
	}
}

// popTwo takes two numbers, y from above x.
func (u *turn) popTwo(then func(x, y int)) {
	u.pop(func(y int) {
		u.pop(func(x int) { then(x, y) })
	})
}

// push puts numbers on the stack; without room for one of them the thread ends.
func (u *turn) push(l ...int) {
	t, ok := push(u.t, l)
	u.goOn(t, ok, api.Over)
}

// enter begins the function of the instruction's A; without room for a frame the thread ends.
func (u *turn) enter() {
	t, ok := stack.Enter(u.p, u.t, u.a)
	u.goOn(t, ok, api.Deep)
}

// leave ends the function that is under way, and with the last one the thread.
func (u *turn) leave() {
	t, left := stack.Leave(u.t)
	u.goOn(t, left, api.Fine)
}
