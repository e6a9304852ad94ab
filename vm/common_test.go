package vm_test

import (
	"math/rand"
	"reflect"
	"testing"

	"hibernacle/api"
	"hibernacle/code"
	"hibernacle/stack"
	"hibernacle/vm"
)

// most is the greatest number that is kept.
const most = 1 << 30

// program is one in which each thing that an instruction names is there twice at least, so that no A is 0 alone. Its function 0 is of the code that is asked; 1 has a local and some code, 2 neither, 3 as much as may be.
func program(l ...api.Instr) api.Program {
	full := make([]api.Instr, api.MaxCode)
	for i := range full {
		full[i] = api.Instr{Op: api.Yield}
	}
	return api.Program{
		Funcs: []api.Func{
			{Locals: 2, Code: l},
			{Locals: 1, Code: []api.Instr{{Op: api.Push, A: 70}, {Op: api.Ret}}},
			{},
			{Locals: 8, Code: full},
		},
		Mutexes: 3,
		Conds:   []int{2, 0, 1},
		Semas:   []int{0, 1, 100},
		Chans:   []int{0, 1, 8},
		Choices: [][]int{{2, 0}, {1}, {0, 1, 2}},
		Threads: 5,
	}
}

// thread is one in the function 0 at a place, called from the function 1, with these numbers.
func thread(pc int, l ...int) api.Thread {
	return api.Thread{
		Frames: []api.Frame{{Func: 1, Pc: 1, Locals: []int{31}}, {Func: 0, Pc: pc, Locals: []int{41, -42}}},
		Stack:  l,
	}
}

// alone is one in the function 0 at a place, without another frame.
func alone(pc int, l ...int) api.Thread {
	return with(thread(pc, l...), func(t *api.Thread) { t.Frames = t.Frames[1:] })
}

// deep is one in the function 0 at a place, with n frames in all.
func deep(n, pc int, l ...int) api.Thread {
	t := alone(pc, l...)
	for len(t.Frames) < n {
		t.Frames = append([]api.Frame{{Func: 1, Pc: 1, Locals: []int{len(t.Frames)}}}, t.Frames...)
	}
	return t
}

// ended is a thread that is over.
func ended(c int) api.Thread {
	return api.Thread{State: api.Dead, Code: c}
}

// with is t in other memory, changed.
func with(t api.Thread, change func(t *api.Thread)) api.Thread {
	c := copied(t)
	change(&c)
	return c
}

// copied is t in other memory, where nil and empty lists are one. It leans on nothing of the program.
func copied(t api.Thread) api.Thread {
	c := t
	c.Stack = append([]int{}, t.Stack...)
	c.Frames = append([]api.Frame{}, t.Frames...)
	for i, f := range t.Frames {
		c.Frames[i].Locals = append([]int{}, f.Locals...)
	}
	return c
}

// equal tells whether two threads are one, by nothing of the program.
func equal(a, b api.Thread) bool {
	return reflect.DeepEqual(copied(a), copied(b))
}

// isThread asks that got is want.
func isThread(t *testing.T, name string, got, want api.Thread) {
	t.Helper()
	if !equal(got, want) {
		t.Errorf("%s: %v, not %v", name, got, want)
	}
}

// isStep asks that x steps to want, and asks for r; and that x may step, so that it is fair to ask.
func isStep(t *testing.T, name string, p api.Program, x, want api.Thread, r vm.Request) {
	t.Helper()
	if !code.May(p) || !stack.May(p, x) || len(x.Frames) == 0 {
		t.Fatalf("%s: what is asked may not be: %v", name, x)
	}
	in := roomy(x)
	y, got := vm.Step(p, in)
	isThread(t, name, y, want)
	if got != r {
		t.Errorf("%s: the request %v, not %v", name, got, r)
	}
	if !stack.May(p, y) {
		t.Errorf("%s: %v is none that may be", name, y)
	}
	isUntouched(t, name, in, x, y)
}

// isUntouched asks that in, a roomy x, is as it was; and that it stays so when all of out, which was made of it, is written over.
func isUntouched(t *testing.T, name string, in, x, out api.Thread) {
	t.Helper()
	if !equal(in, x) || !roomIsMarked(in) {
		t.Errorf("%s: what was handed in is changed", name)
	}
	scratch(out)
	if !equal(in, x) || !roomIsMarked(in) {
		t.Errorf("%s: what is answered is memory of what was handed in", name)
	}
}

// mark stands in all spare room, where nothing that the package does may reach.
const mark = -987654321

// roomy is t in other memory, each list with room behind it, all marked.
func roomy(t api.Thread) api.Thread {
	c := t
	c.Stack = roomyNumbers(t.Stack)
	c.Frames = append(make([]api.Frame, 0, len(t.Frames)+5), t.Frames...)
	for i, f := range c.Frames {
		c.Frames[i].Locals = roomyNumbers(f.Locals)
	}
	for i := range spare(c.Frames) {
		spare(c.Frames)[i] = api.Frame{Func: mark, Pc: mark}
	}
	return c
}

// roomyNumbers is l in other memory, with marked room behind it.
func roomyNumbers(l []int) []int {
	c := append(make([]int, 0, len(l)+5), l...)
	for i := range spare(c) {
		spare(c)[i] = mark
	}
	return c
}

// spare is the room behind l.
func spare[T any](l []T) []T {
	return l[len(l):cap(l)]
}

// roomIsMarked tells whether all room of a roomy thread is as it was.
func roomIsMarked(t api.Thread) bool {
	ok := numbersAreMarked(spare(t.Stack))
	for _, f := range t.Frames {
		ok = ok && numbersAreMarked(spare(f.Locals))
	}
	for _, f := range spare(t.Frames) {
		ok = ok && f.Func == mark && f.Pc == mark && f.Locals == nil
	}
	return ok
}

// numbersAreMarked tells whether all of l are marks.
func numbersAreMarked(l []int) bool {
	for _, n := range l {
		if n != mark {
			return false
		}
	}
	return true
}

// scratch writes over all that is to be reached of t, spare room too.
func scratch(t api.Thread) {
	over := func(l []int) {
		for i := range l[:cap(l)] {
			l[:cap(l)][i] = -77
		}
	}
	over(t.Stack)
	for _, f := range t.Frames {
		over(f.Locals)
	}
	l := t.Frames[:cap(t.Frames)]
	for i := range l {
		l[i] = api.Frame{Func: -77}
	}
}

// numbers is n numbers, all of which differ.
func numbers(n int) []int {
	l := make([]int, n)
	for i := range l {
		l[i] = 100 + i
	}
	return l
}

// anyNumber is a number that is kept, often one at which instructions part.
func anyNumber(r *rand.Rand) int {
	switch r.Intn(6) {
	case 0:
		return most
	case 1:
		return -most
	case 2, 3:
		return r.Intn(3) - 1
	}
	return r.Intn(2*most+1) - most
}

// anyNumbers is n of them.
func anyNumbers(r *rand.Rand, n int) []int {
	l := make([]int, n)
	for i := range l {
		l[i] = anyNumber(r)
	}
	return l
}

// anyProgram is one that may be, of three functions; its instructions are those of ops alone.
func anyProgram(r *rand.Rand, ops ...int) api.Program {
	p := program()
	p.Funcs = make([]api.Func, 3)
	for i := range p.Funcs {
		n := r.Intn(12)
		f := api.Func{Locals: 1 + r.Intn(3)}
		for range n {
			op := ops[r.Intn(len(ops))]
			f.Code = append(f.Code, api.Instr{Op: op, A: anyA(r, op, f.Locals, n)})
		}
		p.Funcs[i] = f
	}
	return p
}

// anyA is an A that an instruction may have, in a function with so many locals and instructions.
func anyA(r *rand.Rand, op, locals, n int) int {
	switch op {
	case api.Push:
		return anyNumber(r)
	case api.Get, api.Set:
		return r.Intn(locals)
	case api.Jump, api.Zero:
		return r.Intn(n + 1)
	case api.Call, api.Spawn, api.Lock, api.Unlock, api.Wait, api.Signal, api.Broadcast, api.Down, api.Up, api.Send, api.Recv, api.Select:
		return r.Intn(3)
	}
	return 0
}

// allOps is each instruction.
func allOps() []int {
	var l []int
	for op := range api.Ops {
		l = append(l, op)
	}
	return l
}

// ownOps is each instruction that asks for nothing, so that threads of them step long.
func ownOps() []int {
	return []int{api.Push, api.Push, api.Push, api.Pop, api.Dup, api.Add, api.Sub, api.Get, api.Set, api.Jump, api.Zero, api.Call, api.Ret}
}

// anyThread is a thread with frames that may be in p.
func anyThread(r *rand.Rand, p api.Program) api.Thread {
	t := api.Thread{State: r.Intn(api.Dead), On: anyNumber(r), Stack: anyNumbers(r, r.Intn(api.MaxStack+1))}
	for range 1 + r.Intn(api.MaxFrames) {
		f := r.Intn(len(p.Funcs))
		of := p.Funcs[f]
		t.Frames = append(t.Frames, api.Frame{Func: f, Pc: r.Intn(len(of.Code) + 1), Locals: anyNumbers(r, of.Locals)})
	}
	return t
}
